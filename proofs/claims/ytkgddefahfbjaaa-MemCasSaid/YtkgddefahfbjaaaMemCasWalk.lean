/- The law MemCas, walked. -/
import Derived.Test.YtkgddefahfbjaaaAliveMem
import Derived.Deep.Draws
namespace Go.Proofs.Ytkgddefahfbjaaa
open Go.RowKit
set_option linter.unusedVariables false
theorem Blk.below {w w' : World} {B g : Nat} {t : TypeId} {cs : Array Value} (h : Blk w g t cs) (hb : Below B w w') (hg : g < B) : Blk w' g t cs := (hb.block g hg).trans h
theorem below_drewN {B : Nat} {a w : World} (h : Below B a w) (n : Nat) : Below B a (w.drewN n) := h.trans ⟨rfl, rfl, rfl, Nat.le_refl _, fun _ _ => rfl⟩
theorem W8 : W4 8 := .inr (.inr (.inr rfl))
end Go.Proofs.Ytkgddefahfbjaaa
namespace Go.Proofs.Ytkgddefahfbjaaa.memCas
open Go.RowKit
set_option linter.unusedVariables false

set_option maxHeartbeats 800000 in
theorem walk_short (w : World) (old x y other : Nat) (h1 : old ≤ 18446744073709551615) (h2 : x ≤ 18446744073709551615) (h3 : y ≤ 18446744073709551615) (h4 : other ≤ 18446744073709551615) (p1 p2 : Bool) (e1 : decide (old = other) = p1) (e2 : decide (x = old) = p2) :
    Calls Try.prog 6 #[.agg #[.int .u64 (old : Int), .int .u64 (x : Int), .int .u64 (y : Int), .int .u64 (other : Int)]] w fun e w' => e = .returned (.bool true) ∧ Below w.heap.size w w' := by
  have t1 : ((other : Int) == (old : Int)) = p1 := by rw [← e1, Bool.eq_iff_iff, beq_iff_eq, decide_eq_true_iff]; omega
  have t2 : ((x : Int) == (old : Int)) = p2 := by rw [← e2, Bool.eq_iff_iff, beq_iff_eq, decide_eq_true_iff]; omega
  have lr : (MemMath.rep 1024 0).length = 1024 := MemMath.length_rep _ _
  obtain ⟨L0, hL0⟩ : ∃ L, MemMath.rep 1024 0 = L := ⟨_, rfl⟩
  rw [hL0] at lr
  have l1 : (MemMath.put8 L0 16 old).length = 1024 := by rw [MemMath.length_put8 (by omega), lr]
  have v1 := MemMath.val_put8 (L := L0) (a := 16) (x := old) (by omega) h1
  -- behind the first Cas, and what is stored then
  obtain ⟨L3, hL3, l3, v3⟩ : ∃ L3, (bif p1 then MemMath.put8 (MemMath.put8 (MemMath.put8 L0 16 old) 16 y) 16 old else MemMath.put8 L0 16 old) = L3 ∧ L3.length = 1024 ∧ MemMath.val (MemMath.part L3 16 8) = old := by
    refine ⟨_, rfl, ?_, ?_⟩
    · cases p1
      · exact l1
      · show (MemMath.put8 (MemMath.put8 (MemMath.put8 L0 16 old) 16 y) 16 old).length = 1024
        rw [MemMath.length_put8 (by rw [MemMath.length_put8 (by omega)]; omega), MemMath.length_put8 (by omega), l1]
    · cases p1
      · exact v1
      · exact MemMath.val_put8 (by rw [MemMath.length_put8 (by omega)]; omega) h1
  have l4 : (MemMath.put8 L3 16 x).length = 1024 := by rw [MemMath.length_put8 (by omega), l3]
  have v4 := MemMath.val_put8 (L := L3) (a := 16) (x := x) (by omega) h2
  obtain ⟨L5, hL5, l5, v5⟩ : ∃ L5, (bif p2 then MemMath.put8 (MemMath.put8 L3 16 x) 16 y else MemMath.put8 L3 16 x) = L5 ∧ L5.length = 1024 ∧ MemMath.val (MemMath.part L5 16 8) = (bif p2 then y else x) := by
    refine ⟨_, rfl, ?_, ?_⟩
    · cases p2
      · exact l4
      · show (MemMath.put8 (MemMath.put8 L3 16 x) 16 y).length = 1024
        rw [MemMath.length_put8 (by omega), l4]
    · cases p2
      · exact v4
      · exact MemMath.val_put8 (by omega) h3
  have hq1 : decide (MemMath.val (MemMath.part (MemMath.put8 L0 16 old) 16 8) = other) = p1 := by rw [v1]; exact e1
  have hq2 : decide (MemMath.val (MemMath.part L3 16 8) = old) = true := decide_eq_true v3
  have hq3 : decide (MemMath.val (MemMath.part (MemMath.put8 L3 16 x) 16 8) = old) = p2 := by rw [v4]; exact e2
  have H0 := Lib.hid hL0; have LR := Lib.hid lr; have LL1 := Lib.hid l1; have H3 := Lib.hid hL3; have LL3 := Lib.hid l3; have LL4 := Lib.hid l4; have H5 := Lib.hid hL5; have LL5 := Lib.hid l5; have V5 := Lib.hid v5
  have Q1 := Lib.hid hq1; have Q2 := Lib.hid hq2; have Q3 := Lib.hid hq3
  clear hL0 lr l1 v1 hL3 l3 v3 l4 v4 hL5 l5 v5 hq1 hq2 hq3 e1 e2
  go_enter Try.func6, Try.ntmps6
  go_wp2_with fail
  refine (alive_any _).mono ?_; rintro e w1 ⟨rfl, hb⟩
  have K1 := Blk.below (Blk.new w _ _) hb (by simp)
  have B1 := Lib.hid (((Below.refl _ w).alloc (Nat.le_refl _) _).trans (hb.mono (by simp)))
  have s1 := B1.out.size
  have c0 : w1.cell? ⟨w.heap.size, 0, none⟩ = some (.int .u64 (old : Int)) := K1.cell 0
  have c1 : w1.cell? ⟨w.heap.size, 1, none⟩ = some (.int .u64 (x : Int)) := K1.cell 1
  have c2 : w1.cell? ⟨w.heap.size, 2, none⟩ = some (.int .u64 (y : Int)) := K1.cell 2
  have c3 : w1.cell? ⟨w.heap.size, 3, none⟩ = some (.int .u64 (other : Int)) := K1.cell 3
  clear K1 hb
  go_wp2_with fail
  go_quiet (fail)
  clear c0 c1 c2 c3
  go_wp2_with fail
  refine (new_ok 1024 (by decide) (by decide) (by decide) _).mono ?_; rintro e w2 ⟨p, g, rfl, hm, hp, hg, hu⟩
  have B2 := Lib.hid ((below_drewN B1.out nq).trans (below_false hu s1))
  rw [H0.out] at hm
  have M2 := Lib.hid hm
  have s2 := B2.out.size
  have hg' : w.heap.size ≤ g := Nat.le_trans s1 hg
  clear hu hm hp hg
  go_wp2_with fail
  refine (store_ok M2.out 16 8 old W8 (Nat.lt_succ_of_le h1) h1 (by rw [LR.out]; decide)).mono ?_; rintro e w3 ⟨rfl, hm, hu⟩
  have B3 := Lib.hid (B2.out.trans (below_one hu s2 hg')); have M3 : Hid (IsMem w3 p g (MemMath.put8 L0 16 old)) := Lib.hid hm
  have s3 := B3.out.size
  clear hu hm
  go_wp2_with fail
  refine (cas_any M3.out 16 other y (by rw [LL1.out]; decide) h3 p1 Q1.out).mono ?_; rintro e w4 ⟨rfl, hm, hu⟩
  have B4 := Lib.hid (B3.out.trans (below_one hu s3 hg')); have M4 := Lib.hid hm
  have s4 := B4.out.size
  clear hu hm
  cases p1
  all_goals
    go_wp2_with (go_at_call 12; refine (store_ok M4.out 16 8 old W8 (Nat.lt_succ_of_le h1) h1 (by show 16 + 8 ≤ (MemMath.put8 (MemMath.put8 L0 16 old) 16 y).length; rw [MemMath.length_put8 (by rw [LL1.out]; decide), LL1.out]; decide)).mono ?_; rintro e w5 ⟨rfl, hm, hu⟩; have B5 := Lib.hid (B4.out.trans (below_one hu s4 hg')); have M5 := Lib.hid hm; have s5 := B5.out.size; clear hu hm)
  · have M6 : Hid (IsMem w4 p g L3) := by
      have h := M4.out; have e := H3.out
      simp only [cond_false] at h e
      rw [e] at h; exact h
    have B6 := B4; have s6 := s4
    refine (cas_any M6.out 16 old x (by rw [LL3.out]; decide) h2 true Q2.out).mono ?_; rintro e w6 ⟨rfl, hm, hu⟩
    have B7 := Lib.hid (B6.out.trans (below_one hu s6 hg')); have M7 : Hid (IsMem w6 p g (MemMath.put8 L3 16 x)) := Lib.hid hm
    have s7 := B7.out.size
    clear hu hm M6 M4 B6 B4 B3 B2 B1
    go_wp2_with fail
    refine (cas_any M7.out 16 old y (by rw [LL4.out]; decide) h3 p2 Q3.out).mono ?_; rintro e w7 ⟨rfl, hm, hu⟩
    have B8 := Lib.hid (B7.out.trans (below_one hu s7 hg'))
    rw [H5.out] at hm
    have M8 := Lib.hid hm
    clear hu hm
    cases p2
    all_goals
      go_wp2_with fail
      refine (load_ok M8.out 16 8 W8 (by rw [LL5.out]; decide)).mono ?_; rw [V5.out]; simp only [cond_true, cond_false]; rintro e w8 ⟨rfl, rfl⟩
      go_wp2
      go_ret
      exact ⟨rfl, B8.out⟩
  · have M6 : Hid (IsMem w5 p g L3) := by
      have h := M5.out; have e := H3.out
      simp only [cond_true] at h e
      exact e ▸ h
    have B6 := B5; have s6 := s5
    refine (cas_any M6.out 16 old x (by rw [LL3.out]; decide) h2 true Q2.out).mono ?_; rintro e w6 ⟨rfl, hm, hu⟩
    have B7 := Lib.hid (B6.out.trans (below_one hu s6 hg')); have M7 : Hid (IsMem w6 p g (MemMath.put8 L3 16 x)) := Lib.hid hm
    have s7 := B7.out.size
    clear hu hm M6 M4 B6 B4 B3 B2 B1
    go_wp2_with fail
    refine (cas_any M7.out 16 old y (by rw [LL4.out]; decide) h3 p2 Q3.out).mono ?_; rintro e w7 ⟨rfl, hm, hu⟩
    have B8 := Lib.hid (B7.out.trans (below_one hu s7 hg'))
    rw [H5.out] at hm
    have M8 := Lib.hid hm
    clear hu hm
    cases p2
    all_goals
      go_wp2_with fail
      refine (load_ok M8.out 16 8 W8 (by rw [LL5.out]; decide)).mono ?_; rw [V5.out]; simp only [cond_true, cond_false]; rintro e w8 ⟨rfl, rfl⟩
      go_wp2
      go_ret
      exact ⟨rfl, B8.out⟩

theorem walk (w : World) (old : Int) (h1 : (Lit.int .u64 old).wf = true) (x : Int) (h2 : (Lit.int .u64 x).wf = true) (y : Int) (h3 : (Lit.int .u64 y).wf = true) (other : Int) (h4 : (Lit.int .u64 other).wf = true) :
    Calls Try.prog 6 #[.agg #[.int .u64 old, .int .u64 x, .int .u64 y, .int .u64 other]] w fun e w' => e = .returned (.bool true) ∧ Below w.heap.size w w' := by
  have b : ∀ n : Int, (Lit.int .u64 n).wf = true → 0 ≤ n ∧ n ≤ 18446744073709551615 := by
    intro n h; simp [Lit.wf, IntKind.min, IntKind.max, IntKind.signed, IntKind.bits] at h; omega
  obtain ⟨o, rfl⟩ := Int.eq_ofNat_of_zero_le (b _ h1).1
  obtain ⟨a, rfl⟩ := Int.eq_ofNat_of_zero_le (b _ h2).1
  obtain ⟨c, rfl⟩ := Int.eq_ofNat_of_zero_le (b _ h3).1
  obtain ⟨d, rfl⟩ := Int.eq_ofNat_of_zero_le (b _ h4).1
  have := b _ h1; have := b _ h2; have := b _ h3; have := b _ h4
  exact walk_short w o a c d (by omega) (by omega) (by omega) (by omega) _ _ rfl rfl
end Go.Proofs.Ytkgddefahfbjaaa.memCas
