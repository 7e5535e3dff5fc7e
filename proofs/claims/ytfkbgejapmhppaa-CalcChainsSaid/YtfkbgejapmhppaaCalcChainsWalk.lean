/- CalcChains: the walk. -/
import Derived.Test.YtfkbgejapmhppaaLawMath
namespace Go.Proofs.Ytfkbgejapmhppaa.calcChains
open Go.RowKit

theorem walk (x : Int) (wx : (Lit.int .u64 x).wf = true) (bit : Int) (wb : (Lit.int .u8 bit).wf = true) (more : Int) (wm : (Lit.int .u8 more).wf = true) (w : World) :
    Calls Try.prog 10 #[.int .u64 x, .int .u8 bit, .int .u8 more] w fun e w' => e = .returned (.bool true) ∧ Below w.heap.size w w' := by
  have bx : 0 ≤ x ∧ x ≤ 18446744073709551615 := by simp [Lit.wf, IntKind.min, IntKind.max, IntKind.signed, IntKind.bits] at wx; omega
  have ba : 0 ≤ bit ∧ bit ≤ 255 := by simp [Lit.wf, IntKind.min, IntKind.max, IntKind.signed, IntKind.bits] at wb; omega
  have bm : 0 ≤ more ∧ more ≤ 255 := by simp [Lit.wf, IntKind.min, IntKind.max, IntKind.signed, IntKind.bits] at wm; omega
  clear wx wb wm
  obtain ⟨X, rfl⟩ := Int.eq_ofNat_of_zero_le bx.1
  obtain ⟨B, rfl⟩ := Int.eq_ofNat_of_zero_le ba.1
  obtain ⟨M, rfl⟩ := Int.eq_ofNat_of_zero_le bm.1
  have hB : B ≤ 255 := by omega
  have hM : M ≤ 255 := by omega
  have hX : X ≤ 18446744073709551615 := by omega
  clear bx ba bm
  obtain ⟨A, hA⟩ : ∃ A : Nat, A = 2 ^ (B % 20) := ⟨_, rfl⟩
  obtain ⟨C, hC⟩ : ∃ C : Nat, C = 2 ^ (B % 20 + M % 20) := ⟨_, rfl⟩
  have a1 : 1 ≤ A := by rw [hA]; exact Nat.two_pow_pos _
  have a2 : A ≤ 1099511627776 := by rw [hA]; show _ ≤ 2 ^ 40; exact Nat.pow_le_pow_right (by decide) (by omega)
  have c1 : 1 ≤ C := by rw [hC]; exact Nat.two_pow_pos _
  have c2 : C ≤ 1099511627776 := by rw [hC]; show _ ≤ 2 ^ 40; exact Nat.pow_le_pow_right (by decide) (by omega)
  have hac : A ∣ C := by rw [hA, hC, Nat.pow_add]; exact Nat.dvd_mul_right _ _
  have hsa : IntKind.u64.wrap ((2 : Int) ^ (B % 20)) = (A : Int) := by
    have e : ((2 : Int) ^ (B % 20)) = (A : Int) := by rw [hA]; push_cast; rfl
    rw [e, CalcMath.wrap_nat _ (by omega)]
  have hsc : IntKind.u64.wrap ((2 : Int) ^ (B % 20 + M % 20)) = (C : Int) := by
    have e : ((2 : Int) ^ (B % 20 + M % 20)) = (C : Int) := by rw [hC]; push_cast; rfl
    rw [e, CalcMath.wrap_nat _ (by omega)]
  have pa : CalcMath.isP2 A = true := by rw [hA]; exact CalcMath.p2_is _
  have pc : CalcMath.isP2 C = true := by rw [hC]; exact CalcMath.p2_is _
  obtain ⟨Y, hY⟩ : ∃ Y : Nat, Y = X % 549755813888 := ⟨_, rfl⟩
  have y2 : Y ≤ 549755813887 := by omega
  have hxy : (X : Int) % 549755813888 = (Y : Int) := by omega
  have le1 := CalcMath.upR_le Y (B % 20) (by omega) (by omega)
  rw [← hA] at le1
  have le2 := CalcMath.upR_le Y (B % 20 + M % 20) (by omega) (by omega)
  rw [← hC] at le2
  have ch := CalcMath.chain_up Y A C (by omega) (by omega) hac
  have cd := CalcMath.chain_down Y A C (by omega) (by omega) hac
  have hp := up_at Y A (by omega) (by omega) (CalcMath.up_ok Y A pa le1)
  have hq := up_at (CalcMath.upR Y A) C (by omega) (by omega) (CalcMath.up_ok (CalcMath.upR Y A) C pc (by rw [ch]; exact le2))
  have hr := up_at Y C (by omega) (by omega) (CalcMath.up_ok Y C pc le2)
  have dle := CalcMath.downR_le Y A
  have hs := down_at Y A (by omega) (by omega) (CalcMath.down_ok Y A pa (by omega))
  have ht := down_at (CalcMath.downR Y A) C (by omega) (by omega) (CalcMath.down_ok (CalcMath.downR Y A) C pc (by omega))
  have hv := down_at Y C (by omega) (by omega) (CalcMath.down_ok Y C pc (by omega))
  rw [ch] at hq
  rw [cd] at ht
  generalize CalcMath.upR Y A = U1 at *
  generalize CalcMath.upR Y C = U2 at *
  generalize CalcMath.downR Y A = D1 at *
  generalize CalcMath.downR Y C = D2 at *
  have H1 := Lib.hid hp; have H2 := Lib.hid hq; have H3 := Lib.hid hr; have H4 := Lib.hid hs; have H5 := Lib.hid ht; have H6 := Lib.hid hv
  clear hp hq hr hs ht hv ch cd pa pc hA hC hac hY
  go_enter Try.func10, Try.ntmps10
  go_wp2_with (go_at_call 12; refine (alive_any _).mono ?_; rintro e w1 ⟨rfl, hb⟩)
  refine (H1.out _ _ rfl rfl _).mono ?_; rintro e w2 ⟨rfl, rfl⟩
  go_wp2_with fail
  refine (H2.out _ _ rfl rfl _).mono ?_; rintro e w2 ⟨rfl, rfl⟩
  go_wp2_with fail
  refine (H3.out _ _ rfl rfl _).mono ?_; rintro e w2 ⟨rfl, rfl⟩
  go_wp2_with fail
  refine (H4.out _ _ rfl rfl _).mono ?_; rintro e w2 ⟨rfl, rfl⟩
  go_wp2_with fail
  refine (H5.out _ _ rfl rfl _).mono ?_; rintro e w2 ⟨rfl, rfl⟩
  go_wp2_with fail
  refine (H6.out _ _ rfl rfl _).mono ?_; rintro e w2 ⟨rfl, rfl⟩
  go_wp2
  go_ret
  exact ⟨rfl, hb⟩

end Go.Proofs.Ytfkbgejapmhppaa.calcChains
