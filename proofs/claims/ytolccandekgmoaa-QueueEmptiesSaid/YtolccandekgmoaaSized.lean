/- What came in fits an address space: the lengths of slices, and of slices in the structs of a slice. Over whatever program. -/
import Derived.Test.YtolccandekgmoaaRecs
namespace Go.Proofs.Ytolccandekgmoaa
open Go.ChangeShapes Go.WideShapes Go.RowKit Go.Deep
set_option linter.unusedVariables false

section
variable {H : Type} {enc : TypeId × Value → H} {P : Program} {w : World} {base : Nat} {spare : Nat → Bool} {held : Bool} {B : Nat}
theorem weightsAll_mem {e : TypeId} : ∀ {l : List (DataW H)}, (DataW.weightsAll P e l).all (· ≤ B) = true → ∀ d ∈ l, (d.weights P e).all (· ≤ B) = true := by
  intro l
  induction l with
  | nil => intro _ d hd; cases hd
  | cons x t ih =>
    intro h d hd
    rw [DataW.weightsAll, List.all_append, Bool.and_eq_true] at h
    rcases List.mem_cons.1 hd with rfl | hd
    · exact h.1
    · exact ih h.2 d hd
theorem weightsEach_at : ∀ {ts : List TypeId} {ds : List (DataW H)}, (DataW.weightsEach P ts ds).all (· ≤ B) = true → ∀ (j : Nat) (t : TypeId) (d : DataW H), ts[j]? = some t → ds[j]? = some d → (d.weights P t).all (· ≤ B) = true := by
  intro ts
  induction ts with
  | nil => intro ds _ j t d ht; simp at ht
  | cons t0 ts ih =>
    intro ds h j t d ht hd
    cases ds with
    | nil => simp at hd
    | cons d0 ds =>
      rw [DataW.weightsEach, List.all_append, Bool.and_eq_true] at h
      cases j with
      | zero => simp at ht hd; subst ht hd; exact h.1
      | succ j => exact ih h.2 j t d (by simpa using ht) (by simpa using hd)
theorem sized_slice {t e : TypeId} (ht : P.underlying t = some (.slice e)) {fuel : Nat} {cs : List Value} {x : DataW H × List MemPlace} (h : DataW.trod enc P w base spare held fuel t cs = some x) (hB : (x.1.weights P t).all (· ≤ B) = true) {a : Option Addr} {len cap : Nat} (hc : cs = [.slice a len cap]) : len * P.bytesOf e ≤ B := by
  rcases open_slice ht h with ⟨rfl, _⟩ | ⟨a', len', cap', m, n', D, Pl, rfl, _, hl, _, hmm, rfl, _⟩
  · injection hc with h1 _
    injection h1 with _ h2 _
    subst h2
    simp
  · injection hc with h1 _
    injection h1 with _ h2 _
    subst h2
    simp only [DataW.weights, ht, List.all_cons, Bool.and_eq_true, decide_eq_true_eq, List.length_map, List.length_range] at hB
    exact Nat.le_trans (Nat.mul_le_mul_right _ (by omega)) hB.1
theorem sized_field {t e te : TypeId} {fs : Array Field} {f : Field} {j : Nat} (ht : P.underlying t = some (.slice e)) (he : P.underlying e = some (.struct fs)) (hf : fs[j]? = some f) (hft : P.underlying f.type = some (.slice te)) {fuel : Nat} {cs : List Value} {x : DataW H × List MemPlace} (h : DataW.trod enc P w base spare held fuel t cs = some x) (hB : (x.1.weights P t).all (· ≤ B) = true)
    {a : Addr} {len cap : Nat} (hc : cs = [.slice (some a) len cap]) {i : Nat} (hi : i < len) {b : Option Addr} {n c : Nat} (hcell : w.cell? (a.add (i * P.cellsOf e + f.offset)) = some (.slice b n c)) : n * P.bytesOf te ≤ B := by
  rcases open_slice ht h with ⟨rfl, _⟩ | ⟨a', len', cap', m, n', D, Pl, rfl, _, hl, _, hmm, rfl, hel⟩
  · injection hc with h1 _
    injection h1 with _ h2 _
    subst h2
    omega
  · injection hc with h1 _
    injection h1 with h0 h2 _
    injection h0 with h0
    subst h0 h2
    have hm : i < m := by rw [hmm]; split <;> omega
    obtain ⟨cs', hcs, hd⟩ := hel i hm
    simp only [DataW.weights, ht, List.all_cons, Bool.and_eq_true, List.all_append] at hB
    have hDi := weightsAll_mem hB.2.1 (D i) (List.mem_map.2 ⟨i, List.mem_range.2 hi, rfl⟩)
    obtain ⟨xs, k, rfl, hx, hlen, hxl, hfs⟩ := DataW.trod_struct he hd
    injection hx with hx _
    rw [hx] at hDi
    simp only [DataW.weights, he] at hDi
    have hjs : j < fs.size := by
      rcases Nat.lt_or_ge j fs.size with h | h
      · exact h
      · rw [Array.getElem?_eq_none h] at hf; cases hf
    obtain ⟨y, hy⟩ : ∃ y, xs[j]? = some y := ⟨xs[j]'(by omega), List.getElem?_eq_getElem _⟩
    have hw := weightsEach_at hDi j f.type y.1 (by rw [List.getElem?_map, ← Array.getElem?_toList] at *; simp [hf]) (by rw [List.getElem?_map, hy]; rfl)
    have htr := hfs j f hf
    rw [hy] at htr
    obtain ⟨_, hl2, hat⟩ := World.cells?_some hcs
    refine sized_slice hft htr hw (a := b) (len := n) (cap := c) ?_
    have hhead : ∀ u : List Value, (∃ v, u = [v]) → u = (cs'.drop f.offset).take (P.cellsOf f.type) → u = [.slice b n c] := by
      rintro u ⟨v, rfl⟩ hu
      have h0 : ((cs'.drop f.offset).take (P.cellsOf f.type))[0]? = some v := by rw [← hu]; rfl
      have h1 : cs'[f.offset]? = some v := by
        rw [List.getElem?_take] at h0
        split at h0
        · rw [List.getElem?_drop, Nat.add_zero] at h0; exact h0
        · cases h0
      have hlt : f.offset < cs'.length := (List.getElem?_eq_some_iff.1 h1).1
      have h2 := hat f.offset (by omega)
      rw [add_add, h1, hcell] at h2
      rw [Option.some.inj h2]
    rcases open_slice hft htr with ⟨e1, _⟩ | ⟨a2, len2, cap2, _, _, _, _, e1, _⟩
    · exact hhead _ ⟨_, e1⟩ rfl
    · exact hhead _ ⟨_, e1⟩ rfl
end
end Go.Proofs.Ytolccandekgmoaa
