/- math/bits.OnesCount64 and calc.Pow2: contracts. -/
import Derived.Test.YtclmdjkihijciaaRows
import Derived.Test.YtclmdjkihijciaaPop
import Derived.WalkKit
import Derived.WalkSpells
import Derived.WalkLawsBesides
import Derived.Outline
import Derived.Laws.BitsAllLaws
import Derived.Lib.Hide
namespace Go.Proofs.Ytclmdjkihijciaa
open Go.RowKit

theorem int_eq {k : IntKind} {a b : Int} (h : a = b) : Value.int k a = .int k b := by rw [h]
theorem ret_int {k : IntKind} {a b : Int} (h : a = b) : Ending.returned (.int k a) = .returned (.int k b) := by rw [h]
theorem ret_boolP {a b : Bool} (h : a = b) : Ending.returned (.bool a) = .returned (.bool b) := by rw [h]

namespace CalcMath
theorem wrap_nat (a : Nat) (h : a < 18446744073709551616) : IntKind.u64.wrap (a : Int) = (a : Int) := by
  rw [IntKind.wrap_u64]; omega

theorem o1_eq (x : Nat) (hx : x ≤ 18446744073709551615) : IntKind.u64.wrap (bits .and .u64 ((x : Int) / 2) 6148914691236517205 + bits .and .u64 (x : Int) 6148914691236517205) = ((s1 8 x : Nat) : Int) := by
  have e1 : ((x : Int) / 2) = ((x / 2 : Nat) : Int) := by omega
  have e2 : (6148914691236517205 : Int) = ((6148914691236517205 : Nat) : Int) := rfl
  have r : rep 85 8 = 6148914691236517205 := by decide +kernel
  have b1 : x / 2 &&& 6148914691236517205 ≤ 6148914691236517205 := Nat.and_le_right
  have b2 : x &&& 6148914691236517205 ≤ 6148914691236517205 := Nat.and_le_right
  rw [e1, e2, u64_and_nat _ _ (by omega) (by omega), u64_and_nat _ _ (by omega) (by omega), ← Int.natCast_add, wrap_nat _ (by omega)]
  unfold s1
  rw [r]

theorem o2_eq (y : Nat) (hy : y ≤ 18446744073709551615) : IntKind.u64.wrap (bits .and .u64 ((y : Int) / 4) 3689348814741910323 + bits .and .u64 (y : Int) 3689348814741910323) = ((s2 8 y : Nat) : Int) := by
  have e1 : ((y : Int) / 4) = ((y / 4 : Nat) : Int) := by omega
  have e2 : (3689348814741910323 : Int) = ((3689348814741910323 : Nat) : Int) := rfl
  have r : rep 51 8 = 3689348814741910323 := by decide +kernel
  have b1 : y / 4 &&& 3689348814741910323 ≤ 3689348814741910323 := Nat.and_le_right
  have b2 : y &&& 3689348814741910323 ≤ 3689348814741910323 := Nat.and_le_right
  rw [e1, e2, u64_and_nat _ _ (by omega) (by omega), u64_and_nat _ _ (by omega) (by omega), ← Int.natCast_add, wrap_nat _ (by omega)]
  unfold s2
  rw [r]

theorem o3_eq (z : Nat) (hz : z ≤ 16000000000000000000) : bits .and .u64 (IntKind.u64.wrap ((z : Int) / 16 + (z : Int))) 1085102592571150095 = ((s3 8 z : Nat) : Int) := by
  have e1 : ((z : Int) / 16 + (z : Int)) = ((z / 16 + z : Nat) : Int) := by omega
  have e2 : (1085102592571150095 : Int) = ((1085102592571150095 : Nat) : Int) := rfl
  have r : rep 15 8 = 1085102592571150095 := by decide +kernel
  rw [e1, wrap_nat _ (by omega), e2, u64_and_nat _ _ (by omega) (by omega)]
  unfold s3
  rw [r]

theorem s1_le (x : Nat) : s1 8 x ≤ 12297829382473034410 := by
  have r : rep 85 8 = 6148914691236517205 := by decide +kernel
  have b1 : x / 2 &&& rep 85 8 ≤ rep 85 8 := Nat.and_le_right
  have b2 : x &&& rep 85 8 ≤ rep 85 8 := Nat.and_le_right
  unfold s1; omega
theorem s2_le (x : Nat) : s2 8 x ≤ 7378697629483820646 := by
  have r : rep 51 8 = 3689348814741910323 := by decide +kernel
  have b1 : x / 4 &&& rep 51 8 ≤ rep 51 8 := Nat.and_le_right
  have b2 : x &&& rep 51 8 ≤ rep 51 8 := Nat.and_le_right
  unfold s2; omega

theorem f1_eq (a : Nat) (h : fold1 a < 18446744073709551616) : IntKind.u64.wrap ((a : Int) + (a : Int) / 256) = ((fold1 a : Nat) : Int) := by
  have e : ((a : Int) + (a : Int) / 256) = ((fold1 a : Nat) : Int) := by unfold fold1; omega
  rw [e, wrap_nat _ h]
theorem f2_eq (a : Nat) (h : fold2 a < 18446744073709551616) : IntKind.u64.wrap ((a : Int) + (a : Int) / 65536) = ((fold2 a : Nat) : Int) := by
  have e : ((a : Int) + (a : Int) / 65536) = ((fold2 a : Nat) : Int) := by unfold fold2; omega
  rw [e, wrap_nat _ h]
theorem f3_eq (a : Nat) (h : fold3 a < 9223372036854775808) : wrap64 (IntKind.u64.wrap ((a : Int) + (a : Int) / 4294967296)) = ((fold3 a : Nat) : Int) := by
  have e : ((a : Int) + (a : Int) / 4294967296) = ((fold3 a : Nat) : Int) := by unfold fold3; omega
  rw [e, wrap_nat _ (by omega)]
  unfold wrap64; omega
theorem and127 (a : Nat) (h : a < 9223372036854775808) : bits .and .i64 (a : Int) 127 = ((a % 128 : Nat) : Int) := by
  have h1 : (BitVec.ofInt 64 (a : Int)).toNat = a := ofInt_u64 a (by omega)
  have h2 : (BitVec.ofInt 64 (127 : Int)).toNat = 127 := ofInt_u64 127 (by omega)
  have h3 : a &&& 127 = a % 128 := Nat.and_two_pow_sub_one_eq_mod a 7
  show IntKind.i64.wrap ((BitVec.ofInt 64 (a : Int) &&& BitVec.ofInt 64 (127 : Int)).toNat : Int) = _
  rw [BitVec.toNat_and, h1, h2, h3, IntKind.wrap_i64]
  omega

theorem ones_val (x : Nat) (hx : x ≤ 18446744073709551615) {X1 X2 X3 X4 X5 X6 : Int}
    (h1 : X1 = IntKind.u64.wrap (bits .and .u64 ((x : Int) / 2) 6148914691236517205 + bits .and .u64 (x : Int) 6148914691236517205))
    (h2 : X2 = IntKind.u64.wrap (bits .and .u64 (X1 / 4) 3689348814741910323 + bits .and .u64 X1 3689348814741910323))
    (h3 : X3 = bits .and .u64 (IntKind.u64.wrap (X2 / 16 + X2)) 1085102592571150095)
    (h4 : X4 = IntKind.u64.wrap (X3 + X3 / 256))
    (h5 : X5 = IntKind.u64.wrap (X4 + X4 / 65536))
    (h6 : X6 = wrap64 (IntKind.u64.wrap (X5 + X5 / 4294967296))) :
    bits .and .i64 X6 127 = ((pop 64 x : Nat) : Int) := by
  have l1 := s1_le x
  have l2 := s2_le (s1 8 x)
  have f := folds x
  simp only at f
  obtain ⟨g0, g1, g2, g3, g4⟩ := f
  have sw := swar 8 x
  rw [o1_eq x hx] at h1; subst h1
  rw [o2_eq _ (by omega)] at h2; subst h2
  rw [o3_eq _ (by omega), sw] at h3; subst h3
  rw [f1_eq _ g1] at h4; subst h4
  rw [f2_eq _ g2] at h5; subst h5
  rw [f3_eq _ g3] at h6; subst h6
  rw [and127 _ g3, g4]
end CalcMath

set_option maxHeartbeats 400000 in
theorem ones_any (x : Nat) (hx : x ≤ 18446744073709551615) (w : World) :
    Calls Try.prog 50 #[.int .u64 (x : Int)] w fun e w' => e = .returned (.int .i64 (CalcMath.pop 64 x : Nat)) ∧ w = w' := by
  go_enter Try.func50, Try.ntmps50
  go_wp2
  go_ret
  exact ⟨ret_int (CalcMath.ones_val x hx rfl rfl rfl rfl rfl rfl), rfl⟩

/-- Pow2: whether it is a power of two. -/
theorem pow2_any (x : Int) (h0 : 0 ≤ x) (hx : x ≤ 18446744073709551615) (w : World) :
    Calls Try.prog 44 #[.int .u64 x] w fun e w' => e = .returned (.bool (CalcMath.isP2 x.toNat)) ∧ w = w' := by
  obtain ⟨n, rfl⟩ := Int.eq_ofNat_of_zero_le h0
  rw [Int.toNat_natCast]
  have hh := CalcMath.pop_isP2 n (by omega)
  go_enter Try.func44, Try.ntmps44
  go_wp2_with (go_at_call 50; refine (ones_any _ (by omega) _).mono ?_; rintro e w' ⟨rfl, rfl⟩)
  go_ret
  exact ⟨ret_boolP (by rw [← hh, Bool.eq_iff_iff, beq_iff_eq, beq_iff_eq]; omega), rfl⟩

end Go.Proofs.Ytclmdjkihijciaa
