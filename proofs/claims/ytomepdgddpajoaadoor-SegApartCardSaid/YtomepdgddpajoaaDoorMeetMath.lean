/- Do two of some runs meet: of those that may be alone, in whatever order; sorted, neighbours are enough. -/
import Derived.Test.YtomepdgddpajoaaDoorGeoMath
namespace Go.Proofs.YtomepdgddpajoaaDoor.GeoMath
set_option linter.unusedVariables false

def okR (x : Rn) : Bool := mayN x.1 x.2.1 x.2.2 && decide (0 < x.2.2)
theorem okR_iff {x : Rn} : okR x = true ↔ (mayN x.1 x.2.1 x.2.2 = true ∧ 0 < x.2.2) := by unfold okR; simp
theorem meet2_ok {a b : Rn} (h : meet2 a b = true) : okR a = true ∧ okR b = true := by
  obtain ⟨h1, h2, h3, h4, _⟩ := meet2_iff.1 h
  exact ⟨okR_iff.2 ⟨h1, h3⟩, okR_iff.2 ⟨h2, h4⟩⟩
theorem ok_end {x : Rn} (h : okR x = true) : x.1 < endN x.1 x.2.1 x.2.2 := by
  obtain ⟨h1, h2⟩ := okR_iff.1 h
  obtain ⟨a1, a2, a3, a4, a5, a6⟩ := may_iff.1 h1
  unfold endN
  rw [if_pos h1]
  have : 1 * 1 ≤ x.2.2.toNat * x.2.1 := Nat.mul_le_mul (by omega) a1
  omega
theorem getD_of {l : List Rn} {i : Nat} (h : i < l.length) : l.getD i rn0 = l[i] := by simp [List.getD_eq_getElem?_getD, h]
theorem meetN_false_iff {l : List Rn} : meetN l = false ↔ l.Pairwise (fun a b => meet2 a b = false) := by
  rw [List.pairwise_iff_getElem, Bool.eq_false_iff, ne_eq, meetN_iff]
  constructor
  · intro h i j hi hj hij
    rw [Bool.eq_false_iff]
    intro x
    exact h ⟨i, j, hij, hj, by rw [getD_of hi, getD_of hj, meet2_comm]; exact x⟩
  · rintro h ⟨i, j, hij, hj, x⟩
    rw [getD_of hj, getD_of (show i < l.length by omega), meet2_comm] at x
    have := h i j (by omega) hj hij
    rw [this] at x
    cases x
theorem eq_of_false_iff {a b : Bool} (h : a = false ↔ b = false) : a = b := by cases a <;> cases b <;> simp_all
theorem meetN_filter (l : List Rn) : meetN (l.filter okR) = meetN l := by
  refine eq_of_false_iff ?_
  rw [meetN_false_iff, meetN_false_iff, List.pairwise_filter]
  constructor
  · intro h
    refine h.imp fun {a b} hab => ?_
    rw [Bool.eq_false_iff]
    intro x
    have := meet2_ok x
    rw [hab this.1 this.2] at x
    cases x
  · intro h
    exact h.imp fun {a b} hab _ _ => hab
theorem meetN_perm {l m : List Rn} (h : l.Perm m) : meetN l = meetN m := by
  refine eq_of_false_iff ?_
  rw [meetN_false_iff, meetN_false_iff]
  exact h.pairwise_iff (fun {a b} hab => by rw [meet2_comm]; exact hab)
/-- They rise by where they begin. -/
def Rises (s : List Rn) : Prop := ∀ i j, i < j → j < s.length → (s.getD i rn0).1 ≤ (s.getD j rn0).1
theorem sorted_hit {s : List Rn} (hok : ∀ x ∈ s, okR x = true) (hs : Rises s) {i : Nat} (h1 : 1 ≤ i) (hi : i < s.length) (h : (s.getD i rn0).1 < endN (s.getD (i - 1) rn0).1 (s.getD (i - 1) rn0).2.1 (s.getD (i - 1) rn0).2.2) : meetN s = true := by
  refine meetN_iff.2 ⟨i - 1, i, by omega, hi, ?_⟩
  have m1 : okR (s.getD i rn0) = true := by rw [getD_of hi]; exact hok _ (List.getElem_mem hi)
  have m2 : okR (s.getD (i - 1) rn0) = true := by rw [getD_of (show i - 1 < s.length by omega)]; exact hok _ (List.getElem_mem _)
  obtain ⟨a1, a2⟩ := okR_iff.1 m1
  obtain ⟨b1, b2⟩ := okR_iff.1 m2
  have := hs (i - 1) i (by omega) hi
  have e := ok_end m1
  exact meet2_iff.2 ⟨a1, b1, a2, b2, h, by omega⟩
theorem sorted_none {s : List Rn} (hok : ∀ x ∈ s, okR x = true) (hs : Rises s) (h : ∀ i, 1 ≤ i → i < s.length → ¬ (s.getD i rn0).1 < endN (s.getD (i - 1) rn0).1 (s.getD (i - 1) rn0).2.1 (s.getD (i - 1) rn0).2.2) : meetN s = false := by
  rw [Bool.eq_false_iff, ne_eq, meetN_iff]
  rintro ⟨i, j, hij, hj, x⟩
  obtain ⟨_, _, _, _, x5, x6⟩ := meet2_iff.1 x
  have hn := h (i + 1) (by omega) (by omega)
  rw [show i + 1 - 1 = i by omega] at hn
  rcases Nat.lt_or_ge (i + 1) j with hlt | hge
  · have := hs (i + 1) j hlt hj
    omega
  · obtain rfl : j = i + 1 := by omega
    omega
/-- How two runs compare. -/
def cmpR (x y : Rn) : Int := if x.1 < y.1 then -1 else if y.1 < x.1 then 1 else 0
end Go.Proofs.YtomepdgddpajoaaDoor.GeoMath
