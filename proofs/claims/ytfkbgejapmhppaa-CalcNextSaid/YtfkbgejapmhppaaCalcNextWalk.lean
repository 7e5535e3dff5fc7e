/- CalcNext: the walk. -/
import Derived.Test.YtfkbgejapmhppaaLawMath
namespace Go.Proofs.Ytfkbgejapmhppaa.calcNext
open Go.RowKit

theorem walk (x : Int) (wx : (Lit.int .u64 x).wf = true) (bit : Int) (wb : (Lit.int .u8 bit).wf = true) (w : World) :
    Calls Try.prog 5 #[.int .u64 x, .int .u8 bit] w fun e w' => e = .returned (.bool true) ∧ Below w.heap.size w w' := by
  have bx : 0 ≤ x ∧ x ≤ 18446744073709551615 := by simp [Lit.wf, IntKind.min, IntKind.max, IntKind.signed, IntKind.bits] at wx; omega
  have ba : 0 ≤ bit ∧ bit ≤ 255 := by simp [Lit.wf, IntKind.min, IntKind.max, IntKind.signed, IntKind.bits] at wb; omega
  clear wx wb
  obtain ⟨X, rfl⟩ := Int.eq_ofNat_of_zero_le bx.1
  obtain ⟨B, rfl⟩ := Int.eq_ofNat_of_zero_le ba.1
  have hB : B ≤ 255 := by omega
  have hX : X ≤ 18446744073709551615 := by omega
  clear bx ba
  obtain ⟨P, hP⟩ : ∃ P : Nat, P = 2 ^ (B % 41) := ⟨_, rfl⟩
  have p1 : 1 ≤ P := by rw [hP]; exact Nat.two_pow_pos _
  have p2 : P ≤ 1099511627776 := by rw [hP]; show _ ≤ 2 ^ 40; exact Nat.pow_le_pow_right (by decide) (by omega)
  have hsh : IntKind.u64.wrap ((2 : Int) ^ (B % 41)) = (P : Int) := by
    have e : ((2 : Int) ^ (B % 41)) = (P : Int) := by rw [hP]; push_cast; rfl
    rw [e, CalcMath.wrap_nat _ (by omega)]
  have hp : CalcMath.isP2 P = true := by rw [hP]; exact CalcMath.p2_is _
  obtain ⟨Y, hY⟩ : ∃ Y : Nat, Y = X % 1099511627776 := ⟨_, rfl⟩
  have y2 : Y ≤ 1099511627775 := by omega
  have ule := CalcMath.upR_le Y (B % 41) (by omega) (by omega)
  rw [← hP] at ule
  obtain ⟨u1, u2, u3, u4⟩ := CalcMath.up_facts Y P (by omega)
  obtain ⟨d1, d2, d3, d4⟩ := CalcMath.down_facts Y P (by omega)
  have hu := up_at Y P (by omega) (by omega) (CalcMath.up_ok Y P hp ule)
  have hd := down_at Y P (by omega) (by omega) (CalcMath.down_ok Y P hp (by omega))
  have uu := (CalcMath.up_facts (CalcMath.upR Y P) P (by omega)).2.2.2 u1
  have hv := up_at (CalcMath.upR Y P) P (by omega) (by omega) (CalcMath.up_ok (CalcMath.upR Y P) P hp (by omega))
  rw [uu] at hv
  have hp2 : ∀ w, Calls Try.prog 17 #[.int .u64 (P : Int)] w fun e w' => e = .returned (.bool true) ∧ w = w' := fun w => by
    have := pow2_any (P : Int) (by omega) (by omega) w
    rwa [Int.toNat_natCast, hp] at this
  generalize CalcMath.upR Y P = U at *
  generalize CalcMath.downR Y P = D at *
  have HU := Lib.hid hu; have HD := Lib.hid hd; have HV := Lib.hid hv; have HP := Lib.hid hp2
  have f1 : (((U : Nat) : Int) % (P : Int) != 0) = false := by
    have : ((U : Nat) : Int) % (P : Int) = 0 := by rw [← Int.natCast_emod, u1]; rfl
    rw [this]; rfl
  have f2 : (((D : Nat) : Int) % (P : Int) != 0) = false := by
    have : ((D : Nat) : Int) % (P : Int) = 0 := by rw [← Int.natCast_emod, d1]; rfl
    rw [this]; rfl
  have hxy : (X : Int) % 1099511627776 = (Y : Int) := by omega
  by_cases hz : Y % P = 0
  · have g1 : (((U : Nat) : Int) == ((D : Nat) : Int)) = true := by rw [u4 hz, d4 hz]; simp
    have g2 : (((Y : Nat) : Int) % (P : Int) == 0) = true := by rw [← Int.natCast_emod, hz]; rfl
    clear hu hd hv hp2 u1 u4 d1 d4 hz hp uu hP hY
    go_enter Try.func5, Try.ntmps5
    go_wp2_with (go_at_call 12; refine (alive_any _).mono ?_; rintro e w1 ⟨rfl, hb⟩)
    refine (HU.out _ _ rfl rfl _).mono ?_; rintro e w2 ⟨rfl, rfl⟩
    go_wp2_with fail
    refine (HD.out _ _ rfl rfl _).mono ?_; rintro e w2 ⟨rfl, rfl⟩
    go_wp2_with fail
    refine (HV.out _ _ rfl rfl _).mono ?_; rintro e w2 ⟨rfl, rfl⟩
    go_wp2_with fail
    refine (HP.out _).mono ?_; rintro e w2 ⟨rfl, rfl⟩
    go_wp2
    go_ret
    exact ⟨rfl, hb⟩
  · have g1 : (((U : Nat) : Int) == ((D : Nat) : Int)) = false := by
      refine beq_eq_false_iff_ne.2 (fun h => hz ?_)
      have : U = Y := by omega
      rw [← this]; exact u1
    have g2 : (((Y : Nat) : Int) % (P : Int) == 0) = false := by
      rw [← Int.natCast_emod]; exact beq_eq_false_iff_ne.2 (by omega)
    clear hu hd hv hp2 u1 u4 d1 d4 hz hp uu hP hY
    go_enter Try.func5, Try.ntmps5
    go_wp2_with (go_at_call 12; refine (alive_any _).mono ?_; rintro e w1 ⟨rfl, hb⟩)
    refine (HU.out _ _ rfl rfl _).mono ?_; rintro e w2 ⟨rfl, rfl⟩
    go_wp2_with fail
    refine (HD.out _ _ rfl rfl _).mono ?_; rintro e w2 ⟨rfl, rfl⟩
    go_wp2_with fail
    refine (HV.out _ _ rfl rfl _).mono ?_; rintro e w2 ⟨rfl, rfl⟩
    go_wp2_with fail
    refine (HP.out _).mono ?_; rintro e w2 ⟨rfl, rfl⟩
    go_wp2
    go_ret
    exact ⟨rfl, hb⟩

end Go.Proofs.Ytfkbgejapmhppaa.calcNext
