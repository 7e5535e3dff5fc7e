/- CalcPowers: the walk. -/
import Derived.Test.YtfkbgejapmhppaaLawMath
namespace Go.Proofs.Ytfkbgejapmhppaa.calcPowers
open Go.RowKit

theorem walk (x : Int) (wx : (Lit.int .u64 x).wf = true) (a : Int) (wa : (Lit.int .u64 a).wf = true) (w : World) :
    Calls Try.prog 6 #[.int .u64 x, .int .u64 a] w fun e w' => e = .returned (.bool true) ∧ Below w.heap.size w w' := by
  have bx : 0 ≤ x ∧ x ≤ 18446744073709551615 := by simp [Lit.wf, IntKind.min, IntKind.max, IntKind.signed, IntKind.bits] at wx; omega
  have ba : 0 ≤ a ∧ a ≤ 18446744073709551615 := by simp [Lit.wf, IntKind.min, IntKind.max, IntKind.signed, IntKind.bits] at wa; omega
  clear wx wa
  obtain ⟨X, rfl⟩ := Int.eq_ofNat_of_zero_le bx.1
  obtain ⟨A, rfl⟩ := Int.eq_ofNat_of_zero_le ba.1
  have hA : A ≤ 18446744073709551615 := by omega
  have hX : X ≤ 18446744073709551615 := by omega
  clear bx ba
  have hp2 : ∀ w, Calls Try.prog 17 #[.int .u64 (A : Int)] w fun e w' => e = .returned (.bool (CalcMath.isP2 A)) ∧ w = w' := fun w => by
    have := pow2_any (A : Int) (by omega) (by omega) w
    rwa [Int.toNat_natCast] at this
  have hand : CalcMath.isP2 A = (A != 0 && (A &&& (A - 1)) == 0) := rfl
  have hpos : 0 < A → bits .and .u64 (A : Int) ((A : Int) - 1) = ((A &&& (A - 1) : Nat) : Int) := fun h => by
    have e : ((A : Int) - 1) = ((A - 1 : Nat) : Int) := by omega
    rw [e, u64_and_nat _ _ (by omega) (by omega)]
  by_cases hp : CalcMath.isP2 A = true
  · rw [hp] at hp2
    have d := CalcMath.down_ok (X % 1099511627776) A hp (by omega)
    have hd := down_at _ A (by omega) hA d
    clear d
    have HD := Lib.hid hd; have HP := Lib.hid hp2; clear hd hp2
    have h0 : A ≠ 0 := by intro h; subst h; exact absurd hp (by decide)
    have hzz : (A &&& (A - 1)) = 0 := by
      rw [hp] at hand
      simp at hand
      exact hand.2
    have hbits := hpos (by omega)
    rw [hzz] at hbits
    have ha : ((A : Int) != 0) = true := by rw [bne_iff_ne]; omega
    have hb0 : (bits .and .u64 (A : Int) ((A : Int) - 1) == 0) = true := by rw [hbits]; rfl
    have h1 : 1 ≤ A := by omega
    clear hand hpos hzz hbits h0
    by_cases hm : A ≤ 1099511627776
    · obtain ⟨k, hk, e⟩ := (CalcMath.isP2_lt A (by omega)).1 hp
      have hk40 : k ≤ 40 := by
        apply Nat.le_of_not_lt
        intro h
        have : 2 ^ 41 ≤ A := by rw [e]; exact Nat.pow_le_pow_right (by decide) h
        omega
      have le := CalcMath.upR_le (X % 1099511627776) k hk40 (by omega)
      rw [← e] at le
      have hu := up_at _ A (by omega) hA (CalcMath.up_ok (X % 1099511627776) A hp le)
      have HU := Lib.hid hu
      clear hu le e hp
      go_enter Try.func6, Try.ntmps6
      go_wp2_with (go_at_call 12; refine (alive_any _).mono ?_; rintro e w1 ⟨rfl, hb⟩)
      refine (HU.out _ _ (by omega) rfl _).mono ?_; rintro e w2 ⟨rfl, rfl⟩
      go_wp2_with fail
      refine (HD.out _ _ (by omega) rfl _).mono ?_; rintro e w2 ⟨rfl, rfl⟩
      go_wp2_with fail
      refine (HP.out _).mono ?_; rintro e w2 ⟨rfl, rfl⟩
      go_wp2
      go_ret
      exact ⟨rfl, hb⟩
    · by_cases hz : X % 1099511627776 = 0
      · have z := CalcMath.upR_zero A (by omega)
        have hu := up_at _ A (by omega) hA (CalcMath.up_ok (X % 1099511627776) A hp (by rw [hz, z]; omega))
        have HU := Lib.hid hu
        have hz' : ((X : Int) % 1099511627776 == 0) = true := beq_iff_eq.2 (by omega)
        clear hu z hp hz
        go_enter Try.func6, Try.ntmps6
        go_wp2_with (go_at_call 12; refine (alive_any _).mono ?_; rintro e w1 ⟨rfl, hb⟩)
        refine (HU.out _ _ (by omega) rfl _).mono ?_; rintro e w2 ⟨rfl, rfl⟩
        go_wp2_with fail
        refine (HD.out _ _ (by omega) rfl _).mono ?_; rintro e w2 ⟨rfl, rfl⟩
        go_wp2_with fail
        refine (HP.out _).mono ?_; rintro e w2 ⟨rfl, rfl⟩
        go_wp2
        go_ret
        exact ⟨rfl, hb⟩
      · have gt := CalcMath.upR_gt (X % 1099511627776) A (by omega) (by omega)
        have hu := up_at _ A (by omega) hA (CalcMath.up_out (X % 1099511627776) A hp gt)
        have HU := Lib.hid hu
        have hm' : decide ((A : Int) ≤ 1099511627776) = false := decide_eq_false (by omega)
        have hz' : ((X : Int) % 1099511627776 == 0) = false := beq_eq_false_iff_ne.2 (by omega)
        clear hu gt hp hz
        go_enter Try.func6, Try.ntmps6
        go_wp2_with (go_at_call 12; refine (alive_any _).mono ?_; rintro e w1 ⟨rfl, hb⟩)
        refine (HU.out _ _ (by omega) rfl _).mono ?_; rintro e w2 ⟨rfl, rfl⟩
        go_wp2_with fail
        refine (HD.out _ _ (by omega) rfl _).mono ?_; rintro e w2 ⟨rfl, rfl⟩
        go_wp2_with fail
        refine (HP.out _).mono ?_; rintro e w2 ⟨rfl, rfl⟩
        go_wp2
        go_ret
        exact ⟨rfl, hb⟩
  · have u := CalcMath.up_arg (X % 1099511627776) A hp
    have d := CalcMath.down_arg (X % 1099511627776) A hp
    have hu := up_at _ A (by omega) hA u
    have hd := down_at _ A (by omega) hA d
    rw [Bool.eq_false_iff.2 hp] at hp2
    clear u d
    have HU := Lib.hid hu; have HD := Lib.hid hd; have HP := Lib.hid hp2; clear hu hd hp2
    by_cases h0 : A = 0
    · subst h0
      clear hp hand hpos
      go_enter Try.func6, Try.ntmps6
      go_wp2_with (go_at_call 12; refine (alive_any _).mono ?_; rintro e w1 ⟨rfl, hb⟩)
      refine (HU.out _ _ (by omega) rfl _).mono ?_; rintro e w2 ⟨rfl, rfl⟩
      go_wp2_with fail
      refine (HD.out _ _ (by omega) rfl _).mono ?_; rintro e w2 ⟨rfl, rfl⟩
      go_wp2_with fail
      refine (HP.out _).mono ?_; rintro e w2 ⟨rfl, rfl⟩
      go_wp2
      go_ret
      exact ⟨rfl, hb⟩
    · have hzz : (A &&& (A - 1)) ≠ 0 := by
        intro h
        rw [Bool.eq_false_iff.2 hp, h] at hand
        simp at hand
        exact h0 hand
      have ha : ((A : Int) != 0) = true := by rw [bne_iff_ne]; omega
      have hb0 : (bits .and .u64 (A : Int) ((A : Int) - 1) == 0) = false := by rw [hpos (by omega)]; exact beq_eq_false_iff_ne.2 (by omega)
      have h1 : 1 ≤ A := by omega
      clear hp hand hpos hzz h0
      go_enter Try.func6, Try.ntmps6
      go_wp2_with (go_at_call 12; refine (alive_any _).mono ?_; rintro e w1 ⟨rfl, hb⟩)
      refine (HU.out _ _ (by omega) rfl _).mono ?_; rintro e w2 ⟨rfl, rfl⟩
      go_wp2_with fail
      refine (HD.out _ _ (by omega) rfl _).mono ?_; rintro e w2 ⟨rfl, rfl⟩
      go_wp2_with fail
      refine (HP.out _).mono ?_; rintro e w2 ⟨rfl, rfl⟩
      go_wp2
      go_ret
      exact ⟨rfl, hb⟩

end Go.Proofs.Ytfkbgejapmhppaa.calcPowers
