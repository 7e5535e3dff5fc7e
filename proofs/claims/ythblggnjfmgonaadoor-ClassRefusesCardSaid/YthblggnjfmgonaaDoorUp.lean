/- calc.within, calc.Up: contracts. -/
import Derived.Test.YthblggnjfmgonaaDoorPow2
namespace Go.Proofs.YthblggnjfmgonaaDoor
open Go.RowKit

namespace CalcMath
def upR (x a : Nat) : Nat := (x + a - 1) / a * a
def downR (x a : Nat) : Nat := x / a * a
def upV (x a : Nat) : Nat := if isP2 a = true ∧ upR x a ≤ 1099511627776 then upR x a else 0
def upE (x a : Nat) : Nat := if isP2 a = true then (if upR x a ≤ 1099511627776 then 0 else 3) else 2
def downV (x a : Nat) : Nat := if isP2 a = true ∧ downR x a ≤ 1099511627776 then downR x a else 0
def downE (x a : Nat) : Nat := if isP2 a = true then (if downR x a ≤ 1099511627776 then 0 else 3) else 2

theorem upR_ge (x k : Nat) : x ≤ upR x (2 ^ k) := by
  have hp : 0 < 2 ^ k := Nat.two_pow_pos k
  unfold upR
  have := Nat.div_add_mod (x + 2 ^ k - 1) (2 ^ k)
  have := Nat.mod_lt (x + 2 ^ k - 1) hp
  rw [Nat.mul_comm]
  omega

theorem andNot_int (y k : Nat) (hy : y ≤ 18446744073709551615) (hk : k < 64) {a : Nat} (ha : a = 2 ^ k) : bits .andNot .u64 (y : Int) (((a : Nat) : Int) - 1) = ((y / a * a : Nat) : Int) := by
  subst ha
  have hp0 : 0 < 2 ^ k := Nat.two_pow_pos k
  have hp : 2 ^ k < 18446744073709551616 := Nat.pow_lt_pow_of_lt (a := 2) (n := k) (m := 64) (by decide) hk
  have e : (((2 ^ k : Nat) : Int) - 1) = ((2 ^ k - 1 : Nat) : Int) := by omega
  rw [e, u64_andNot_nat _ _ (by omega) (by omega), andNot_mask y k (by omega) hk]
end CalcMath

theorem within_le (x : Int) (h0 : 0 ≤ x) (h : x ≤ 1099511627776) (w : World) :
    Calls Tryd.prog 27 #[.int .u64 x] w fun e w' => e = .returned (.tuple #[.int .u64 x, .int .i64 0]) ∧ w = w' := by
  go_enter Tryd.func27, Tryd.ntmps27
  go_wp2
  go_ret2
  exact ⟨rfl, rfl⟩

theorem within_gt (x : Int) (h : 1099511627776 < x) (w : World) :
    Calls Tryd.prog 27 #[.int .u64 x] w fun e w' => e = .returned (.tuple #[.int .u64 0, .int .i64 3]) ∧ w = w' := by
  go_enter Tryd.func27, Tryd.ntmps27
  go_wp2
  go_ret2
  exact ⟨rfl, rfl⟩

theorem ret_pair {a b c d : Int} (h1 : a = c) (h2 : b = d) : Ending.returned (.tuple #[.int .u64 a, .int .i64 b]) = .returned (.tuple #[.int .u64 c, .int .i64 d]) := by rw [h1, h2]

theorem p2_le {a k : Nat} (h : a = 2 ^ k) (hk : k < 64) : a ≤ 9223372036854775808 := by
  subst h; show 2 ^ k ≤ 2 ^ 63; exact Nat.pow_le_pow_right (by decide) (by omega)

theorem up_any (x a : Nat) (hx : x ≤ 18446744073709551615) (ha : a ≤ 18446744073709551615) (w : World) :
    Calls Tryd.prog 26 #[.int .u64 x, .int .u64 a] w fun e w' => e = .returned (.tuple #[.int .u64 (CalcMath.upV x a : Nat), .int .i64 (CalcMath.upE x a : Nat)]) ∧ w = w' := by
  by_cases hp : CalcMath.isP2 a = true
  · obtain ⟨k, hk, e⟩ := (CalcMath.isP2_lt a (by omega)).1 hp
    have a1 : 1 ≤ a := by rw [e]; exact Nat.two_pow_pos k
    have ge := CalcMath.upR_ge x k
    rw [← e] at ge
    have hap : a ≤ 9223372036854775808 := p2_le e hk
    have E := Lib.hid e; clear e
    have pq : ∀ w, Calls Tryd.prog 23 #[.int .u64 a] w fun e w' => e = .returned (.bool true) ∧ w = w' := fun w => (pow2_any a (by omega) (by omega) w).mono fun e w' ⟨h1, h2⟩ => ⟨by rw [h1, Int.toNat_natCast, hp], h2⟩
    by_cases hb : x ≤ 1099511627776
    · have hand := CalcMath.andNot_int (x + a - 1) k (by omega) hk E.out
      have ev : ((x : Int) + (a : Int) - 1) = ((x + a - 1 : Nat) : Int) := by omega
      rw [← ev] at hand
      by_cases hr : CalcMath.upR x a ≤ 1099511627776
      · have f1 : CalcMath.upV x a = (x + a - 1) / a * a := by unfold CalcMath.upV; rw [if_pos ⟨hp, hr⟩]; rfl
        have f2 : CalcMath.upE x a = 0 := by unfold CalcMath.upE; rw [if_pos hp, if_pos hr]
        have F1 := Lib.hid f1; have F2 := Lib.hid f2; have HA := Lib.hid hand; clear f1 f2 hand ev
        have HR : (x + a - 1) / a * a ≤ 1099511627776 := hr
        clear hp hr ge
        go_enter Tryd.func26, Tryd.ntmps26
        go_wp2_with (go_at_call 23; refine (pq _).mono ?_; rintro e w' ⟨rfl, rfl⟩)
        rw [HA.out]
        refine (within_le _ (Int.natCast_nonneg _) (by omega) _).mono ?_; rintro e w' ⟨rfl, rfl⟩
        go_wp2
        go_ret2
        exact ⟨by rw [F1.out, F2.out]; rfl, rfl⟩
      · have f1 : CalcMath.upV x a = 0 := by unfold CalcMath.upV; rw [if_neg (fun h => hr h.2)]
        have f2 : CalcMath.upE x a = 3 := by unfold CalcMath.upE; rw [if_pos hp, if_neg hr]
        have F1 := Lib.hid f1; have F2 := Lib.hid f2; have HA := Lib.hid hand; clear f1 f2 hand ev
        have HR : 1099511627776 < (x + a - 1) / a * a := Nat.lt_of_not_le hr
        clear hp hr ge
        go_enter Tryd.func26, Tryd.ntmps26
        go_wp2_with (go_at_call 23; refine (pq _).mono ?_; rintro e w' ⟨rfl, rfl⟩)
        rw [HA.out]
        refine (within_gt _ (by omega) _).mono ?_; rintro e w' ⟨rfl, rfl⟩
        go_wp2
        go_ret2
        exact ⟨by rw [F1.out, F2.out]; rfl, rfl⟩
    · have hr : ¬ CalcMath.upR x a ≤ 1099511627776 := by omega
      have f1 : CalcMath.upV x a = 0 := by unfold CalcMath.upV; rw [if_neg (fun h => hr h.2)]
      have f2 : CalcMath.upE x a = 3 := by unfold CalcMath.upE; rw [if_pos hp, if_neg hr]
      have F1 := Lib.hid f1; have F2 := Lib.hid f2; clear f1 f2
      clear hp hr ge
      go_enter Tryd.func26, Tryd.ntmps26
      go_wp2_with (go_at_call 23; refine (pq _).mono ?_; rintro e w' ⟨rfl, rfl⟩)
      go_ret2
      exact ⟨by rw [F1.out, F2.out]; rfl, rfl⟩
  · have f1 : CalcMath.upV x a = 0 := by unfold CalcMath.upV; rw [if_neg (fun h => hp h.1)]
    have f2 : CalcMath.upE x a = 2 := by unfold CalcMath.upE; rw [if_neg hp]
    have pq : ∀ w, Calls Tryd.prog 23 #[.int .u64 a] w fun e w' => e = .returned (.bool false) ∧ w = w' := fun w => (pow2_any a (by omega) (by omega) w).mono fun e w' ⟨h1, h2⟩ => ⟨by rw [h1, Int.toNat_natCast, Bool.eq_false_iff.2 hp], h2⟩
    have F1 := Lib.hid f1; have F2 := Lib.hid f2; clear f1 f2 hp
    go_enter Tryd.func26, Tryd.ntmps26
    go_wp2_with (go_at_call 23; refine (pq _).mono ?_; rintro e w' ⟨rfl, rfl⟩)
    go_ret2
    exact ⟨by rw [F1.out, F2.out]; rfl, rfl⟩

end Go.Proofs.YthblggnjfmgonaaDoor
