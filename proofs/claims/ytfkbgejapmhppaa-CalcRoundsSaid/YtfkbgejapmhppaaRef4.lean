/- The document's answers for layer 1: Pow2, Up, Down, Sum, Mul, Ends: contracts. -/
import Derived.Test.YtfkbgejapmhppaaLawMath
import Derived.Test.YtfkbgejapmhppaaRef2
import Derived.Test.YtfkbgejapmhppaaRef3
namespace Go.Proofs.Ytfkbgejapmhppaa
open Go.RowKit

/-! ### Pow2 -/
def halved (X y : Nat) : Prop := ∃ j, X = y * 2 ^ j
def PowRel (X : Nat) (x : Value) : Prop := ∃ y : Nat, x = .int .u64 y ∧ y ≤ 18446744073709551615 ∧ (CalcMath.isP2 y = CalcMath.isP2 X)

theorem p2_half {y : Nat} (h2 : y % 2 = 0) : CalcMath.isP2 (y / 2) = CalcMath.isP2 y := by
  rw [Bool.eq_iff_iff, CalcMath.isP2_iff, CalcMath.isP2_iff]
  constructor
  · rintro ⟨k, e⟩; exact ⟨k + 1, by rw [Nat.pow_succ]; omega⟩
  · rintro ⟨k, e⟩
    cases k with
    | zero => simp at e; omega
    | succ k => exact ⟨k, by rw [Nat.pow_succ] at e; omega⟩
theorem p2_stop {y : Nat} (h : y ≤ 1 ∨ y % 2 = 1) : CalcMath.isP2 y = (y == 1) := by
  rw [Bool.eq_iff_iff, CalcMath.isP2_iff, beq_iff_eq]
  constructor
  · rintro ⟨k, e⟩
    cases k with
    | zero => simpa using e
    | succ k => rw [Nat.pow_succ] at e; have := Nat.two_pow_pos k; omega
  · rintro rfl; exact ⟨0, rfl⟩

theorem rpow2_any (X : Nat) (hX : X ≤ 18446744073709551615) (w : World) :
    Calls Try.prog 18 #[.int .u64 (X : Int)] w fun e w' => e = .returned (.bool (CalcMath.isP2 X)) ∧ w = w' := by
  go_enter Try.func18, Try.ntmps18
  go_wp2
  go_loop [0] (fun x => PowRel X x) (fun x => (intOf x).toNat)
  case atStart => exact ⟨X, rfl, hX, rfl⟩
  case round =>
    obtain ⟨y, rfl, hy, he⟩ := hrel
    have HE := Lib.hid he; clear he
    by_cases h1 : 1 < y
    · by_cases h2 : y % 2 = 0
      · have ht : ((y : Int) % 2 == 0) = true := beq_iff_eq.2 (by omega)
        have HH := Lib.hid (p2_half h2)
        clear h2
        go_wp2
        exact ⟨⟨y / 2, int_eq (by omega), by omega, HH.out.trans HE.out⟩, by simp only [intOf]; omega⟩
      · have ht : ((y : Int) % 2 == 0) = false := beq_eq_false_iff_ne.2 (by omega)
        have HH := Lib.hid (p2_stop (y := y) (.inr (by omega)))
        clear h2
        go_wp2
        go_ret
        exact ⟨ret_bool (by rw [← HE.out, HH.out, Bool.eq_iff_iff, beq_iff_eq, beq_iff_eq]; omega), rfl⟩
    · have HH := Lib.hid (p2_stop (y := y) (.inl (by omega)))
      go_wp2
      go_ret
      exact ⟨ret_bool (by rw [← HE.out, HH.out, Bool.eq_iff_iff, beq_iff_eq, beq_iff_eq]; omega), rfl⟩

/-! ### Up and Down -/
open Dig (I64s Norm RetLong)

theorem of_at (X : Nat) (hX : X ≤ 18446744073709551615) (x : Int) (hx : x = X) (w : World) :
    Calls Try.prog 27 #[.int .u64 x] w (RetLong w fun R => Norm R ∧ Dig.val R = X) := by
  subst hx; exact Dig.of_any X hX w

theorem norm_small {l : List Nat} (h : Norm l) {k : Nat} (hv : Dig.val l < 10000 ^ k) (hk : k ≤ 1000000) : l.length ≤ 1000000 := by
  have := Dig.norm_len h k hv; omega
theorem u64_pow {x : Nat} (h : x ≤ 18446744073709551615) : x < 10000 ^ 5 := by
  have : (10000 : Nat) ^ 5 = 100000000000000000000 := by decide
  omega

theorem up_back {X A : Nat} (hp : CalcMath.isP2 A = true) : CalcMath.upV X A = Dig.backV (CalcMath.upR X A) ∧ CalcMath.upE X A = Dig.backE (CalcMath.upR X A) := by
  unfold CalcMath.upV CalcMath.upE Dig.backV Dig.backE
  rw [if_pos hp]
  by_cases h : CalcMath.upR X A ≤ 1099511627776
  · rw [if_pos ⟨hp, h⟩, if_pos h]; exact ⟨rfl, rfl⟩
  · rw [if_neg (fun h' => h h'.2), if_neg h]; exact ⟨rfl, rfl⟩
theorem down_back {X A : Nat} (hp : CalcMath.isP2 A = true) : CalcMath.downV X A = Dig.backV (CalcMath.downR X A) ∧ CalcMath.downE X A = Dig.backE (CalcMath.downR X A) := by
  unfold CalcMath.downV CalcMath.downE Dig.backV Dig.backE
  rw [if_pos hp]
  by_cases h : CalcMath.downR X A ≤ 1099511627776
  · rw [if_pos ⟨hp, h⟩, if_pos h]; exact ⟨rfl, rfl⟩
  · rw [if_neg (fun h' => h h'.2), if_neg h]; exact ⟨rfl, rfl⟩
theorem down_is (X A : Nat) : CalcMath.downR X A = X - X % A := by
  unfold CalcMath.downR
  have := Nat.div_add_mod X A
  rw [Nat.mul_comm] at this
  omega
theorem up_is (X A : Nat) (hA : 0 < A) (h : 0 < X % A) : CalcMath.upR X A = X - X % A + A := by
  obtain ⟨u1, u2, u3, _⟩ := CalcMath.up_facts X A hA
  obtain ⟨d1, d2, d3, _⟩ := CalcMath.down_facts X A hA
  have e := down_is X A
  have hm : (X - X % A + A) % A = 0 := by rw [Nat.add_mod_right, ← e]; exact d1
  have hlt := Nat.mod_lt X hA
  have hle := Nat.mod_le X A
  exact CalcMath.mult_one u1 hm (by omega) (by omega)

theorem pow2_case (A : Nat) (b : Bool) (h : CalcMath.isP2 A = b) (hA : A ≤ 18446744073709551615) (w : World) :
    Calls Try.prog 18 #[.int .u64 (A : Int)] w fun e w' => e = .returned (.bool b) ∧ w = w' := by
  rw [← h]; exact rpow2_any A hA w

set_option maxHeartbeats 400000 in
theorem rup_any (X A : Nat) (hX : X ≤ 18446744073709551615) (hA : A ≤ 18446744073709551615) (w : World) :
    Calls Try.prog 14 #[.int .u64 (X : Int), .int .u64 (A : Int)] w fun e w' => e = .returned (.tuple #[.int .u64 (CalcMath.upV X A : Nat), .int .i64 (CalcMath.upE X A : Nat)]) ∧ Below w.heap.size w w' := by
  by_cases hp : CalcMath.isP2 A = true
  · have hA1 : 1 ≤ A := by
      apply Nat.lt_of_not_le
      intro h
      obtain rfl : A = 0 := by omega
      exact absurd hp (by decide)
    have hub := up_back (X := X) hp
    have HUB := Lib.hid hub
    have HP := Lib.hid (pow2_case A true hp hA)
    have hlt := Nat.mod_lt X (show 0 < A by omega)
    have hmod : ((X : Int) % (A : Int)) = ((X % A : Nat) : Int) := (Int.natCast_emod X A).symm
    obtain ⟨r, hr⟩ : ∃ r, X % A = r := ⟨_, rfl⟩
    have hle : r ≤ X := by rw [← hr]; exact Nat.mod_le _ _
    have HO := Lib.hid (of_at (X - r) (by omega) ((X : Int) - (r : Int)) (by omega))
    have HA2 := Lib.hid (of_at A hA (A : Int) rfl)
    have HD := Lib.hid (down_is X A)
    rw [hr] at hmod hlt
    clear hub hp
    by_cases hz : 0 < r
    · have hu := up_is X A (by omega) (by rw [hr]; exact hz)
      rw [hr] at hu
      have HU := Lib.hid hu
      clear hu hr
      go_enter Try.func14, Try.ntmps14
      go_wp2_with (go_at_call 18; refine (HP.out _).mono ?_; rintro e w1 ⟨rfl, rfl⟩)
      refine (HO.out _).mono ?_; rintro e w1 ⟨v1, R1, rfl, r1, ⟨n1, e1⟩, b1, _⟩
      have E1 := Lib.hid e1; clear e1
      go_wp2_with fail
      refine (HA2.out _).mono ?_; rintro e w2 ⟨v2, R2, rfl, r2, ⟨n2, e2⟩, b2, _⟩
      have E2 := Lib.hid e2; clear e2
      have b12 := b1.trans (b2.mono b1.size)
      go_wp2_with fail
      refine (Dig.plus_any w2 v1 v2 R1 R2 n1.1 n2.1 (r1.below (Nat.le_refl _) b2) r2 (norm_small n1 (k := 5) (by rw [E1.out]; exact u64_pow (by omega)) (by omega)) (norm_small n2 (k := 5) (by rw [E2.out]; exact u64_pow hA) (by omega))).mono ?_; rintro e w3 ⟨v3, R3, rfl, r3, ⟨n3, e3⟩, b3, _⟩
      have hv3 : Dig.val R3 = CalcMath.upR X A := by rw [e3, E1.out, E2.out, HU.out]
      have E3 := Lib.hid hv3; clear e3 hv3
      have b123 := b12.trans (b3.mono b12.size)
      go_wp2_with fail
      have hbk := Dig.back_any w3 v3 R3 n3 r3 (norm_small n3 (k := 6) (by rw [E3.out, HU.out]; have : (10000 : Nat) ^ 6 = 1000000000000000000000000 := by decide
                                                                          omega) (by omega))
      rw [E3.out, ← HUB.out.1, ← HUB.out.2] at hbk
      refine hbk.mono ?_; rintro e w4 ⟨rfl, b4⟩
      have bw := b123.trans (b4.mono b123.size)
      clear hbk
      go_wp2
      go_ret2
      exact ⟨rfl, bw⟩
    · have hu : CalcMath.upR X A = X - r := by
        have := (CalcMath.up_facts X A (by omega)).2.2.2 (by omega)
        omega
      have HU := Lib.hid hu
      have hz0 : r ≤ 0 := by omega
      have ht : decide (0 < (r : Int)) = false := decide_eq_false (by omega)
      have ht2 : decide (0 < r) = false := decide_eq_false (by omega)
      clear hu hr hz0
      go_enter Try.func14, Try.ntmps14
      go_wp2_with (go_at_call 18; refine (HP.out _).mono ?_; rintro e w1 ⟨rfl, rfl⟩)
      refine (HO.out _).mono ?_; rintro e w1 ⟨v1, R1, rfl, r1, ⟨n1, e1⟩, b1, _⟩
      have hv1 : Dig.val R1 = CalcMath.upR X A := by rw [e1, HU.out]
      have E1 := Lib.hid hv1; clear e1 hv1
      go_wp2_with fail
      have hbk := Dig.back_any w1 v1 R1 n1 r1 (norm_small n1 (k := 5) (by rw [E1.out, HU.out]; exact u64_pow (by omega)) (by omega))
      rw [E1.out, ← HUB.out.1, ← HUB.out.2] at hbk
      refine hbk.mono ?_; rintro e w4 ⟨rfl, b4⟩
      have bw := b1.trans (b4.mono b1.size)
      clear hbk
      go_wp2
      go_ret2
      exact ⟨rfl, bw⟩
  · have hu := CalcMath.up_arg X A hp
    have HU := Lib.hid hu
    have HP := Lib.hid (pow2_case A false (Bool.eq_false_iff.2 hp) hA)
    clear hu hp
    go_enter Try.func14, Try.ntmps14
    go_wp2_with (go_at_call 18; refine (HP.out _).mono ?_; rintro e w1 ⟨rfl, rfl⟩)
    go_ret2
    exact ⟨by rw [HU.out.1, HU.out.2]; rfl, Below.refl _ _⟩

set_option maxHeartbeats 400000 in
theorem rdown_any (X A : Nat) (hX : X ≤ 18446744073709551615) (hA : A ≤ 18446744073709551615) (w : World) :
    Calls Try.prog 16 #[.int .u64 (X : Int), .int .u64 (A : Int)] w fun e w' => e = .returned (.tuple #[.int .u64 (CalcMath.downV X A : Nat), .int .i64 (CalcMath.downE X A : Nat)]) ∧ Below w.heap.size w w' := by
  by_cases hp : CalcMath.isP2 A = true
  · have hA1 : 1 ≤ A := by
      apply Nat.lt_of_not_le
      intro h
      obtain rfl : A = 0 := by omega
      exact absurd hp (by decide)
    have hub := down_back (X := X) hp
    have HUB := Lib.hid hub
    have HP := Lib.hid (pow2_case A true hp hA)
    have hlt := Nat.mod_lt X (show 0 < A by omega)
    have hmod : ((X : Int) % (A : Int)) = ((X % A : Nat) : Int) := (Int.natCast_emod X A).symm
    have hd := down_is X A
    obtain ⟨r, hr⟩ : ∃ r, X % A = r := ⟨_, rfl⟩
    have hle : r ≤ X := by rw [← hr]; exact Nat.mod_le _ _
    have HO := Lib.hid (of_at (X - r) (by omega) ((X : Int) - (r : Int)) (by omega))
    rw [hr] at hmod hlt hd
    have HD := Lib.hid hd
    clear hub hp hr hd
    go_enter Try.func16, Try.ntmps16
    go_wp2_with (go_at_call 18; refine (HP.out _).mono ?_; rintro e w1 ⟨rfl, rfl⟩)
    refine (HO.out _).mono ?_; rintro e w1 ⟨v1, R1, rfl, r1, ⟨n1, e1⟩, b1, _⟩
    have hv1 : Dig.val R1 = CalcMath.downR X A := by rw [e1, HD.out]
    have E1 := Lib.hid hv1; clear e1 hv1
    go_wp2_with fail
    have hbk := Dig.back_any w1 v1 R1 n1 r1 (norm_small n1 (k := 5) (by rw [E1.out, HD.out]; exact u64_pow (by omega)) (by omega))
    rw [E1.out, ← HUB.out.1, ← HUB.out.2] at hbk
    refine hbk.mono ?_; rintro e w4 ⟨rfl, b4⟩
    have bw := b1.trans (b4.mono b1.size)
    clear hbk
    go_wp2
    go_ret2
    exact ⟨rfl, bw⟩
  · have hu := CalcMath.down_arg X A hp
    have HU := Lib.hid hu
    have HP := Lib.hid (pow2_case A false (Bool.eq_false_iff.2 hp) hA)
    clear hu hp
    go_enter Try.func16, Try.ntmps16
    go_wp2_with (go_at_call 18; refine (HP.out _).mono ?_; rintro e w1 ⟨rfl, rfl⟩)
    go_ret2
    exact ⟨by rw [HU.out.1, HU.out.2]; rfl, Below.refl _ _⟩

end Go.Proofs.Ytfkbgejapmhppaa
