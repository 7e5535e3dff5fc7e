/- The law ArenaLimit, walked. -/
import Derived.Test.YtnkahcfkbpbhiaaArena5
import Derived.Test.YtnkahcfkbpbhiaaOnes
import Derived.Test.YtnkahcfkbpbhiaaReads
namespace Go.Proofs.Ytnkahcfkbpbhiaa.arenaLimit
open Go.RowKit ArenaMath
set_option linter.unusedVariables false

def Round (w : World) (q n k : Nat) (i : Value) (wr : World) : Prop := ∃ c r : Nat, c ≤ 2 ∧ i = .int .i64 (c : Int) ∧ r = c * (n - k) ∧ Lives w q (lims n k 0 r) wr
theorem lims_zero (n k r : Nat) : lims n k 0 r = ⟨n, k, [], [], r⟩ := by simp [lims, ones_nil]
theorem lims_end {n k r : Nat} (h : k ≤ n) : lims n k n r = backs n k 0 (r + (n - k)) := by simp [lims, backs, Nat.min_eq_right h]
theorem backs_end (n k r : Nat) : backs n k k r = lims n k 0 r := by simp [lims, backs, ones_nil]
theorem at_most {c d : Nat} (hc : c ≤ 2) (hd : d ≤ 64) : c * d ≤ 128 := Nat.le_trans (Nat.mul_le_mul hc hd) (by decide)
def Giving (w : World) (q n k r0 : Nat) (i : Value) (wr : World) : Prop := ∃ j : Nat, j ≤ n ∧ i = .int .i64 (j : Int) ∧ Lives w q (lims n k j r0) wr
def Taking (w : World) (q n k r : Nat) (i : Value) (wr : World) : Prop := ∃ j : Nat, j ≤ k ∧ i = .int .i64 (j : Int) ∧ Lives w q (backs n k j r) wr

set_option maxRecDepth 100000 in
set_option maxHeartbeats 2000000 in
theorem walk_at (w : World) (ps pl n0 k : Nat) (hps : ps ≤ 255) (hpl : pl ≤ 255) (hn0 : n0 ≤ 63) (e1 : Int.tmod (ps : Int) 64 = (n0 : Int)) (hk : k ≤ n0 + 1) (e2 : Int.tmod (pl : Int) ((n0 : Int) + 1 + 1) = (k : Int)) :
    Calls Try.prog 7 #[.int .u8 (ps : Int), .int .u8 (pl : Int)] w fun e w' => e = .returned (.bool true) ∧ Below w.heap.size w w' := by
  go_enter Try.func7, Try.ntmps7
  go_wp2_with fail
  refine (alive_any _).mono ?_; rintro e w1 ⟨rfl, hb⟩
  have B1 := Lib.hid hb
  clear hb
  have hN := lives_new (n0 + 1) k (by omega) (by omega) hk B1.out
  rw [show ((n0 + 1 : Nat) : Int) = (n0 : Int) + 1 by omega] at hN
  have HN := Lib.hid hN
  clear hN
  go_wp2_with fail
  refine HN.out.mono ?_; rintro e w2 ⟨q, rfl, hs⟩
  have S2 : Hid (Lives w q (lims (n0 + 1) k 0 0) w2) := Lib.hid (by rw [lims_zero]; exact hs)
  clear hs HN e1 e2
  go_wp2_with fail
  go_loopw [32] (fun i wr => Round w q (n0 + 1) k i wr) (fun i _ => 2 - (intOf i).toNat)
  case atStart => exact ⟨0, 0, by omega, rfl, by simp, S2.out⟩
  case round =>
    obtain ⟨c, r, hc, rfl, hr, hs⟩ := hrel
    have S3 := Lib.hid hs; have R3 := Lib.hid hr
    have hrb : r ≤ 128 := by rw [hr]; exact at_most hc (by omega)
    clear hs hr
    by_cases hlt : c < 2
    · have tc : decide ((c : Int) < 2) = true := decide_eq_true (by omega)
      go_wp2
      go_loopw [35] (fun i wr => Giving w q (n0 + 1) k r i wr) (fun i _ => n0 + 1 - (intOf i).toNat)
      case atStart => exact ⟨0, Nat.zero_le _, rfl, S3.out⟩
      case round =>
        obtain ⟨j, hj, rfl, hs⟩ := hrel
        have S4 := Lib.hid hs
        clear hs
        by_cases hjn : j < n0 + 1
        · have hrj : (lims (n0 + 1) k j r).r ≤ 1000000000000 := by simp only [lims]; omega
          by_cases hjk : j < k
          · have HR := S4.out.reserve 1 hrj
            rw [lims_give hk hjk (by omega)] at HR
            have HR := Lib.hid HR
            have t1 : decide (j < k) = true := decide_eq_true hjk
            have t2 : ((j : Int) == (j : Int)) = true := by simp
            clear hrj hjk
            go_wp2_with fail
            refine HR.out.mono ?_; rintro e w5 ⟨rfl, hs⟩
            have S5 := Lib.hid hs
            clear hs
            go_wp2
            go_roundw
            case rel => first | exact ⟨j + 1, by omega, by go_num, S5.out⟩ | ((repeat apply Exists.intro); exact ⟨⟨j + 1, by omega, by go_num, S5.out⟩, rfl⟩)
            case measure => simp [intOf]; omega
          · have HR := S4.out.reserve 1 hrj
            rw [lims_full hk (by omega) (by omega)] at HR
            have HR := Lib.hid HR
            have t1 : decide (j < k) = false := decide_eq_false hjk
            clear hrj hjk
            go_wp2_with fail
            refine HR.out.mono ?_; rintro e w5 ⟨rfl, hs⟩
            have S5 := Lib.hid hs
            clear hs
            go_wp2
            go_roundw
            case rel => first | exact ⟨j + 1, by omega, by go_num, S5.out⟩ | ((repeat apply Exists.intro); exact ⟨⟨j + 1, by omega, by go_num, S5.out⟩, rfl⟩)
            case measure => simp [intOf]; omega
        · obtain rfl : j = n0 + 1 := by omega
          have hs := S4.out
          rw [lims_end hk] at hs
          have S5 := Lib.hid hs
          clear S4 hs
          have tj : decide (((n0 + 1 : Nat) : Int) < (n0 : Int) + 1) = false := decide_eq_false (by omega)
          have tj2 : decide ((n0 : Int) + 1 < (n0 : Int) + 1) = false := decide_eq_false (by omega)
          go_wp2
          go_loopw [68] (fun i wr => Taking w q (n0 + 1) k (r + (n0 + 1 - k)) i wr) (fun i _ => k - (intOf i).toNat)
          case atStart => exact ⟨0, Nat.zero_le _, rfl, S5.out⟩
          case round =>
            obtain ⟨i, hi, rfl, hs⟩ := hrel
            have S6 := Lib.hid hs
            clear hs
            by_cases hik : i < k
            · have HR := S6.out.release (i : Int)
              rw [backs_take hik] at HR
              have HR := Lib.hid HR
              go_wp2_with fail
              refine HR.out.mono ?_; rintro e w5 ⟨rfl, hs⟩
              have S7 := Lib.hid hs
              clear hs
              go_wp2
              go_roundw
              case rel => first | exact ⟨i + 1, by omega, by go_num, S7.out⟩ | ((repeat apply Exists.intro); exact ⟨⟨i + 1, by omega, by go_num, S7.out⟩, rfl⟩)
              case measure => simp [intOf]; omega
            · obtain rfl : i = k := by omega
              go_wp2
              go_roundw
              case rel => first | exact ⟨c + 1, r + (n0 + 1 - i), by omega, by go_num, by rw [R3.out, Nat.add_mul, Nat.one_mul], by have := S6.out; rwa [backs_end] at this⟩ | ((repeat apply Exists.intro); exact ⟨⟨c + 1, r + (n0 + 1 - i), by omega, by go_num, by rw [R3.out, Nat.add_mul, Nat.one_mul], by have := S6.out; rwa [backs_end] at this⟩, rfl⟩)
              case measure => simp [intOf]; omega
    · obtain rfl : c = 2 := by omega
      have hr2 := R3.out
      have t1 : ((r : Int) == 2 * ((n0 : Int) + 1 - (k : Int))) = true := by rw [beq_iff_eq]; omega
      have HG := S3.out.given
      have e0 : total (lims (n0 + 1) k 0 r).l = 0 := by simp [lims, ones_nil, total]
      rw [e0] at HG
      have HG := Lib.hid HG
      clear hr2 e0
      go_wp2_with fail
      refine HG.out.mono ?_; rintro e w5 ⟨rfl, hs⟩
      have HF := hs.refused
      have e1 : (lims (n0 + 1) k 0 r).r = r := by simp [lims]
      rw [e1] at HF
      have HF := Lib.hid HF
      have S5 := Lib.hid hs
      clear hs e1
      go_wp2_with fail
      refine HF.out.mono ?_; rintro e w' ⟨rfl, rfl⟩
      go_wp2
      go_ret
      exact ⟨rfl, S5.out.below⟩

theorem walk (w : World) (a : Int) (h1 : (Lit.int .u8 a).wf = true) (b : Int) (h2 : (Lit.int .u8 b).wf = true) :
    Calls Try.prog 7 #[.int .u8 a, .int .u8 b] w fun e w' => e = .returned (.bool true) ∧ Below w.heap.size w w' := by
  have b1 := u8_bd h1
  have b2 := u8_bd h2
  obtain ⟨a, rfl⟩ := Int.eq_ofNat_of_zero_le b1.1
  obtain ⟨b, rfl⟩ := Int.eq_ofNat_of_zero_le b2.1
  have hm : b % (a % 64 + 1 + 1) < a % 64 + 1 + 1 := Nat.mod_lt _ (by omega)
  exact walk_at w a b (a % 64) (b % (a % 64 + 1 + 1)) (by omega) (by omega) (by omega) (Int.ofNat_tmod _ _).symm (by omega) (by rw [show ((a % 64 : Nat) : Int) + 1 + 1 = ((a % 64 + 1 + 1 : Nat) : Int) by omega]; exact (Int.ofNat_tmod _ _).symm)
end Go.Proofs.Ytnkahcfkbpbhiaa.arenaLimit
