/- Runs: when one may be, its end and its blocks, in the integers. -/
import Derived.Test.YtomepdgddpajoaaDoorGeoCl
namespace Go.Proofs.YtomepdgddpajoaaDoor
open Go.RowKit GeoMath
set_option linter.unusedVariables false

theorem cast_mul (m s : Nat) : ((m * s : Nat) : Int) = (m : Int) * (s : Int) := Int.natCast_mul m s
theorem may_cases {f s : Nat} {n : Int} :
    (∃ m : Nat, n = (m : Int) ∧ 1 ≤ s ∧ s ≤ 1048576 ∧ m ≤ 1024 ∧ f ≤ 1048576 ∧ decide ((f : Int) + (m : Int) * (s : Int) ≤ 1048576) = mayN f s n) ∨
    (mayN f s n = false ∧ (decide ((1 : Int) ≤ (s : Int)) = false ∨ (decide ((1 : Int) ≤ (s : Int)) = true ∧ decide ((s : Int) ≤ 1048576) = false) ∨ (decide ((1 : Int) ≤ (s : Int)) = true ∧ decide ((s : Int) ≤ 1048576) = true ∧ decide ((0 : Int) ≤ n) = false) ∨
      (decide ((1 : Int) ≤ (s : Int)) = true ∧ decide ((s : Int) ≤ 1048576) = true ∧ decide ((0 : Int) ≤ n) = true ∧ decide (n ≤ 1024) = false) ∨ (decide ((1 : Int) ≤ (s : Int)) = true ∧ decide ((s : Int) ≤ 1048576) = true ∧ decide ((0 : Int) ≤ n) = true ∧ decide (n ≤ 1024) = true ∧ decide ((f : Int) ≤ 1048576) = false))) := by
  by_cases h : 1 ≤ s ∧ s ≤ 1048576 ∧ 0 ≤ n ∧ n ≤ 1024 ∧ f ≤ 1048576
  · obtain ⟨h1, h2, h3, h4, h5⟩ := h
    obtain ⟨m, rfl⟩ := Int.eq_ofNat_of_zero_le h3
    refine Or.inl ⟨m, rfl, h1, h2, by omega, h5, ?_⟩
    rw [Bool.eq_iff_iff, decide_eq_true_iff, may_iff, Int.toNat_natCast, ← cast_mul]
    constructor
    · intro h; exact ⟨h1, h2, h3, h4, h5, by omega⟩
    · rintro ⟨_, _, _, _, _, h⟩; omega
  · refine Or.inr ⟨?_, ?_⟩
    · rw [Bool.eq_false_iff]
      intro x
      obtain ⟨h1, h2, h3, h4, h5, _⟩ := may_iff.1 x
      exact h ⟨h1, h2, h3, h4, h5⟩
    · simp only [decide_eq_true_iff, decide_eq_false_iff_not]
      omega
theorem prod_bd {m s : Nat} (hm : m ≤ 1024) (hs : s ≤ 1048576) : (0 : Int) ≤ (m : Int) * (s : Int) ∧ (m : Int) * (s : Int) ≤ 1073741824 := by
  rw [← cast_mul]
  have : m * s ≤ 1024 * 1048576 := Nat.mul_le_mul hm hs
  omega
theorem may_true {f s : Nat} {n : Int} (h : mayN f s n = true) : ∃ m : Nat, n = (m : Int) ∧ 1 ≤ s ∧ s ≤ 1048576 ∧ m ≤ 1024 ∧ f ≤ 1048576 ∧ f + m * s ≤ 1048576 := by
  obtain ⟨h1, h2, h3, h4, h5, h6⟩ := may_iff.1 h
  obtain ⟨m, rfl⟩ := Int.eq_ofNat_of_zero_le h3
  rw [Int.toNat_natCast] at h6
  exact ⟨m, rfl, h1, h2, by omega, h5, h6⟩
theorem end_true {f s m : Nat} (h : mayN f s (m : Int) = true) : ((endN f s (m : Int) : Nat) : Int) = (f : Int) + (m : Int) * (s : Int) := by
  unfold endN; rw [if_pos h, Int.toNat_natCast, Int.natCast_add, cast_mul]
theorem end_false {f s : Nat} {n : Int} (h : mayN f s n = false) : endN f s n = 0 := by
  unfold endN; rw [if_neg (by rw [h]; decide)]
theorem block_true {f s m i : Nat} (h : mayN f s (m : Int) = true) (hi : i < m) : ((blockN f s (m : Int) (i : Int) : Nat) : Int) = (f : Int) + (i : Int) * (s : Int) ∧ blockE f s (m : Int) (i : Int) = 0 := by
  unfold blockN blockE
  rw [if_pos ⟨h, by omega, by omega⟩, if_pos h, if_pos ⟨by omega, by omega⟩, Int.toNat_natCast, Int.natCast_add, cast_mul]
  exact ⟨rfl, rfl⟩
theorem block_out {f s : Nat} {n i : Int} (h : mayN f s n = true) (hi : ¬ (0 ≤ i ∧ i < n)) : blockN f s n i = 0 ∧ blockE f s n i = 3 := by
  unfold blockN blockE
  rw [if_neg (fun x => hi x.2), if_pos h, if_neg hi]
  exact ⟨rfl, rfl⟩
theorem block_false {f s : Nat} {n i : Int} (h : mayN f s n = false) : blockN f s n i = 0 ∧ blockE f s n i = 2 := by
  unfold blockN blockE
  rw [if_neg (fun x => by rw [h] at x; cases x.1), if_neg (by rw [h]; decide)]
  exact ⟨rfl, rfl⟩
end Go.Proofs.YtomepdgddpajoaaDoor
