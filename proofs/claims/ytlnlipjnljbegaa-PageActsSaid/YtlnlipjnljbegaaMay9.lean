/- The document's own page (allotmentref09): May: contract. -/
import Derived.Test.YtlnlipjnljbegaaPageMath
import Derived.Test.YtlnlipjnljbegaaRefG2
namespace Go.Proofs.Ytlnlipjnljbegaa
open Go.RowKit ListMath PageMath GeoMath
set_option linter.unusedVariables false

set_option maxHeartbeats 1000000 in
theorem refp_may (w : World) (f s sz : Nat) (n : Int) (hf : U64B f) (hs : U64B s) (hn : I64B n) (hz : U64B sz) :
    Calls Try.prog 13 #[runV f s n, .int .u64 (sz : Int)] w fun e w' => e = .returned (.bool (mayP f s n sz)) ∧ Below w.heap.size w w' := by
  have MA := Lib.hid (fun w => ref_may w f s n hf hs hn)
  have EN := Lib.hid (fun w => ref_end w f s n hf hs hn)
  obtain ⟨n1, n2⟩ := hn
  have hc : (mayP f s n sz = false ∧ mayN f s n = false) ∨ (mayP f s n sz = false ∧ mayN f s n = true ∧ ¬ 0 < f) ∨ (mayP f s n sz = false ∧ mayN f s n = true ∧ 0 < f ∧ ¬ 16 ≤ s) ∨ (mayP f s n sz = false ∧ mayN f s n = true ∧ 0 < f ∧ 16 ≤ s ∧ ¬ 1 ≤ n) ∨ (mayP f s n sz = false ∧ mayN f s n = true ∧ 0 < f ∧ 16 ≤ s ∧ 1 ≤ n ∧ ¬ endN f s n ≤ sz) ∨ (mayP f s n sz = true ∧ mayN f s n = true ∧ 0 < f ∧ 16 ≤ s ∧ 1 ≤ n ∧ endN f s n ≤ sz) := by
    have hi := mayP_iff (f := f) (s := s) (n := n) (sz := sz)
    cases hp : mayP f s n sz with
    | true => exact Or.inr (Or.inr (Or.inr (Or.inr (Or.inr ⟨rfl, (hi.1 hp)⟩))))
    | false =>
      rw [hp] at hi
      cases hm : mayN f s n with
      | false => exact Or.inl ⟨rfl, rfl⟩
      | true =>
        by_cases h1 : 0 < f
        · by_cases h2 : 16 ≤ s
          · by_cases h3 : 1 ≤ n
            · by_cases h4 : endN f s n ≤ sz
              · exact absurd (hi.2 ⟨hm, h1, h2, h3, h4⟩) (by decide)
              · exact Or.inr (Or.inr (Or.inr (Or.inr (Or.inl ⟨rfl, rfl, h1, h2, h3, h4⟩))))
            · exact Or.inr (Or.inr (Or.inr (Or.inl ⟨rfl, rfl, h1, h2, h3⟩)))
          · exact Or.inr (Or.inr (Or.inl ⟨rfl, rfl, h1, h2⟩))
        · exact Or.inr (Or.inl ⟨rfl, rfl, h1⟩)
  obtain ⟨E, hE⟩ : ∃ E, endN f s n = E := ⟨_, rfl⟩
  obtain ⟨M, hM⟩ : ∃ M, mayP f s n sz = M := ⟨_, rfl⟩
  obtain ⟨Y, hY⟩ : ∃ M, mayN f s n = M := ⟨_, rfl⟩
  rw [hE, hM, hY] at hc
  rw [hM]
  rw [hY] at MA
  rw [hE] at EN
  unfold runV at MA EN ⊢
  clear hE hM hY
  rcases hc with ⟨rfl, rfl⟩ | ⟨rfl, rfl, h1⟩ | ⟨rfl, rfl, h1, h2⟩ | ⟨rfl, rfl, h1, h2, h3⟩ | ⟨rfl, rfl, h1, h2, h3, h4⟩ | ⟨rfl, rfl, h1, h2, h3, h4⟩
  · go_enter Try.func13, Try.ntmps13
    go_wp2_with fail
    refine (MA.out _).mono ?_; rintro e w1 ⟨rfl, hb⟩
    have K := (Blk.new w 24 #[.int .u64 (f : Int), .int .u64 (s : Int), .int .i64 n]).grew hb
    obtain ⟨bq, hbq⟩ : ∃ bq, w.heap.size = bq := ⟨_, rfl⟩
    have B1 := Lib.hid (below_then ((Below.refl _ w).alloc (Nat.le_refl _) _) (by simp) hb)
    rw [hbq] at K
    have r0 : w1.cell? ⟨bq, 0, none⟩ = some (.int .u64 (f : Int)) := K.cell 0
    have r1 : w1.cell? ⟨bq, 1, none⟩ = some (.int .u64 (s : Int)) := K.cell 1
    have r2 : w1.cell? ⟨bq, 2, none⟩ = some (.int .i64 n) := K.cell 2
    clear hb K
    go_wp2
    go_ret
    exact ⟨rfl, B1.out⟩
  · have d1 : decide ((0 : Int) < (f : Int)) = false := decide_eq_false (by omega)
    have d1' : decide (0 < f) = false := decide_eq_false (by omega)
    clear h1
    go_enter Try.func13, Try.ntmps13
    go_wp2_with fail
    refine (MA.out _).mono ?_; rintro e w1 ⟨rfl, hb⟩
    have K := (Blk.new w 24 #[.int .u64 (f : Int), .int .u64 (s : Int), .int .i64 n]).grew hb
    obtain ⟨bq, hbq⟩ : ∃ bq, w.heap.size = bq := ⟨_, rfl⟩
    have B1 := Lib.hid (below_then ((Below.refl _ w).alloc (Nat.le_refl _) _) (by simp) hb)
    rw [hbq] at K
    have r0 : w1.cell? ⟨bq, 0, none⟩ = some (.int .u64 (f : Int)) := K.cell 0
    have r1 : w1.cell? ⟨bq, 1, none⟩ = some (.int .u64 (s : Int)) := K.cell 1
    have r2 : w1.cell? ⟨bq, 2, none⟩ = some (.int .i64 n) := K.cell 2
    clear hb K
    go_wp2
    go_ret
    exact ⟨rfl, B1.out⟩
  · have d1 : decide ((0 : Int) < (f : Int)) = true := decide_eq_true (by omega)
    have d1' : decide (0 < f) = true := decide_eq_true (by omega)
    have d2 : decide ((16 : Int) ≤ (s : Int)) = false := decide_eq_false (by omega)
    clear h1 h2
    go_enter Try.func13, Try.ntmps13
    go_wp2_with fail
    refine (MA.out _).mono ?_; rintro e w1 ⟨rfl, hb⟩
    have K := (Blk.new w 24 #[.int .u64 (f : Int), .int .u64 (s : Int), .int .i64 n]).grew hb
    obtain ⟨bq, hbq⟩ : ∃ bq, w.heap.size = bq := ⟨_, rfl⟩
    have B1 := Lib.hid (below_then ((Below.refl _ w).alloc (Nat.le_refl _) _) (by simp) hb)
    rw [hbq] at K
    have r0 : w1.cell? ⟨bq, 0, none⟩ = some (.int .u64 (f : Int)) := K.cell 0
    have r1 : w1.cell? ⟨bq, 1, none⟩ = some (.int .u64 (s : Int)) := K.cell 1
    have r2 : w1.cell? ⟨bq, 2, none⟩ = some (.int .i64 n) := K.cell 2
    clear hb K
    go_wp2
    go_ret
    exact ⟨rfl, B1.out⟩
  · have d1 : decide ((0 : Int) < (f : Int)) = true := decide_eq_true (by omega)
    have d1' : decide (0 < f) = true := decide_eq_true (by omega)
    have d2 : decide ((16 : Int) ≤ (s : Int)) = true := decide_eq_true (by omega)
    have d3 : decide ((1 : Int) ≤ n) = false := decide_eq_false (by omega)
    clear h1 h2 h3
    go_enter Try.func13, Try.ntmps13
    go_wp2_with fail
    refine (MA.out _).mono ?_; rintro e w1 ⟨rfl, hb⟩
    have K := (Blk.new w 24 #[.int .u64 (f : Int), .int .u64 (s : Int), .int .i64 n]).grew hb
    obtain ⟨bq, hbq⟩ : ∃ bq, w.heap.size = bq := ⟨_, rfl⟩
    have B1 := Lib.hid (below_then ((Below.refl _ w).alloc (Nat.le_refl _) _) (by simp) hb)
    rw [hbq] at K
    have r0 : w1.cell? ⟨bq, 0, none⟩ = some (.int .u64 (f : Int)) := K.cell 0
    have r1 : w1.cell? ⟨bq, 1, none⟩ = some (.int .u64 (s : Int)) := K.cell 1
    have r2 : w1.cell? ⟨bq, 2, none⟩ = some (.int .i64 n) := K.cell 2
    clear hb K
    go_wp2
    go_ret
    exact ⟨rfl, B1.out⟩
  · have d1 : decide ((0 : Int) < (f : Int)) = true := decide_eq_true (by omega)
    have d1' : decide (0 < f) = true := decide_eq_true (by omega)
    have d2 : decide ((16 : Int) ≤ (s : Int)) = true := decide_eq_true (by omega)
    have d3 : decide ((1 : Int) ≤ n) = true := decide_eq_true (by omega)
    have d4 : decide ((E : Int) ≤ (sz : Int)) = false := decide_eq_false (by omega)
    have d4' : decide (E ≤ sz) = false := decide_eq_false (by omega)
    clear h1 h2 h3 h4
    go_enter Try.func13, Try.ntmps13
    go_wp2_with fail
    refine (MA.out _).mono ?_; rintro e w1 ⟨rfl, hb⟩
    have K := (Blk.new w 24 #[.int .u64 (f : Int), .int .u64 (s : Int), .int .i64 n]).grew hb
    obtain ⟨bq, hbq⟩ : ∃ bq, w.heap.size = bq := ⟨_, rfl⟩
    have B1 := Lib.hid (below_then ((Below.refl _ w).alloc (Nat.le_refl _) _) (by simp) hb)
    rw [hbq] at K
    have r0 : w1.cell? ⟨bq, 0, none⟩ = some (.int .u64 (f : Int)) := K.cell 0
    have r1 : w1.cell? ⟨bq, 1, none⟩ = some (.int .u64 (s : Int)) := K.cell 1
    have r2 : w1.cell? ⟨bq, 2, none⟩ = some (.int .i64 n) := K.cell 2
    clear hb K
    go_wp2_with fail
    refine (EN.out _).mono ?_; rintro e w2 ⟨rfl, hb⟩
    have B2 := Lib.hid (below_then B1.out B1.out.size hb)
    clear hb
    go_wp2
    go_ret
    exact ⟨rfl, B2.out⟩
  · have d1 : decide ((0 : Int) < (f : Int)) = true := decide_eq_true (by omega)
    have d1' : decide (0 < f) = true := decide_eq_true (by omega)
    have d2 : decide ((16 : Int) ≤ (s : Int)) = true := decide_eq_true (by omega)
    have d3 : decide ((1 : Int) ≤ n) = true := decide_eq_true (by omega)
    have d4 : decide ((E : Int) ≤ (sz : Int)) = true := decide_eq_true (by omega)
    have d4' : decide (E ≤ sz) = true := decide_eq_true (by omega)
    clear h1 h2 h3 h4
    go_enter Try.func13, Try.ntmps13
    go_wp2_with fail
    refine (MA.out _).mono ?_; rintro e w1 ⟨rfl, hb⟩
    have K := (Blk.new w 24 #[.int .u64 (f : Int), .int .u64 (s : Int), .int .i64 n]).grew hb
    obtain ⟨bq, hbq⟩ : ∃ bq, w.heap.size = bq := ⟨_, rfl⟩
    have B1 := Lib.hid (below_then ((Below.refl _ w).alloc (Nat.le_refl _) _) (by simp) hb)
    rw [hbq] at K
    have r0 : w1.cell? ⟨bq, 0, none⟩ = some (.int .u64 (f : Int)) := K.cell 0
    have r1 : w1.cell? ⟨bq, 1, none⟩ = some (.int .u64 (s : Int)) := K.cell 1
    have r2 : w1.cell? ⟨bq, 2, none⟩ = some (.int .i64 n) := K.cell 2
    clear hb K
    go_wp2_with fail
    refine (EN.out _).mono ?_; rintro e w2 ⟨rfl, hb⟩
    have B2 := Lib.hid (below_then B1.out B1.out.size hb)
    clear hb
    go_wp2
    go_ret
    exact ⟨rfl, B2.out⟩
end Go.Proofs.Ytlnlipjnljbegaa
