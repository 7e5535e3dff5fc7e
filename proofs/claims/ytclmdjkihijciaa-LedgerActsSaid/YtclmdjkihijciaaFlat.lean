/- What comes in, of whatever type that is numbers, bools, strings, slices of these, and structs of such: its cells, read leaf by leaf. Over whatever program. -/
import Derived.Test.YtclmdjkihijciaaInts
import Derived.Deep.Slices
import Derived.Deep.Fields
import Derived.ChangeSame
namespace Go.Proofs.Ytclmdjkihijciaa
open Go.ChangeShapes Go.WideShapes Go.RowKit Go.Deep
set_option linter.unusedVariables false

/-- What a cell of it may be. -/
inductive Leaf where
  | num (k : IntKind)
  | flag
  | text
  | nums (k : IntKind)
  | flags
/-- A slice of numbers of a kind, that reads as l. -/
def NumsAt (w : World) (k : IntKind) (u : Value) (l : List Int) : Prop :=
  ∃ a cap, u = .slice a l.length cap ∧ l.length ≤ cap ∧ cap ≤ 9223372036854775807 ∧ (a = none → cap = 0) ∧ (∀ i, i < l.length → ∃ b off, a = some ⟨b, off, none⟩ ∧ w.cell? ⟨b, off + i, none⟩ = some (.int k (l.getD i 0))) ∧ ∀ n ∈ l, (Lit.int k n).wf = true
def FlagsAt (w : World) (u : Value) (l : List Bool) : Prop :=
  ∃ a cap, u = .slice a l.length cap ∧ l.length ≤ cap ∧ cap ≤ 9223372036854775807 ∧ (a = none → cap = 0) ∧ (∀ i, i < l.length → ∃ b off, a = some ⟨b, off, none⟩ ∧ w.cell? ⟨b, off + i, none⟩ = some (.bool (l.getD i false)))
def Leaf.ok (w : World) : Leaf → Value → Prop
  | .num k, u => ∃ n, u = .int k n ∧ (Lit.int k n).wf = true
  | .flag, u => ∃ b, u = .bool b
  | .text, u => ∃ s, u = .string s ∧ s.size ≤ 9223372036854775807
  | .nums k, u => ∃ l, NumsAt w k u l
  | .flags, u => ∃ l, FlagsAt w u l
theorem cell_later {w w' : World} {B b o : Nat} {v : Value} (h : w.cell? ⟨b, o, none⟩ = some v) (hB : w.heap.size ≤ B) (hb : Below B w w') : w'.cell? ⟨b, o, none⟩ = some v := by
  have hlt := World.block_lt_of_cell? w _ h
  rw [hb.cell (p := ⟨b, o, none⟩) (by simp only at hlt ⊢; omega)]; exact h
theorem NumsAt.below {w w' : World} {k : IntKind} {u : Value} {l : List Int} (h : NumsAt w k u l) {B : Nat} (hB : w.heap.size ≤ B) (hb : Below B w w') : NumsAt w' k u l := by
  obtain ⟨a, cap, e, h1, h2, h3, h4, h5⟩ := h
  refine ⟨a, cap, e, h1, h2, h3, fun i hi => ?_, h5⟩
  obtain ⟨b, off, ea, hc⟩ := h4 i hi
  exact ⟨b, off, ea, cell_later hc hB hb⟩
theorem FlagsAt.below {w w' : World} {u : Value} {l : List Bool} (h : FlagsAt w u l) {B : Nat} (hB : w.heap.size ≤ B) (hb : Below B w w') : FlagsAt w' u l := by
  obtain ⟨a, cap, e, h1, h2, h3, h4⟩ := h
  refine ⟨a, cap, e, h1, h2, h3, fun i hi => ?_⟩
  obtain ⟨b, off, ea, hc⟩ := h4 i hi
  exact ⟨b, off, ea, cell_later hc hB hb⟩
theorem Leaf.ok.below {w w' : World} {f : Leaf} {u : Value} (h : f.ok w u) {B : Nat} (hB : w.heap.size ≤ B) (hb : Below B w w') : f.ok w' u := by
  cases f with
  | num k => exact h
  | flag => exact h
  | text => exact h
  | nums k => obtain ⟨l, hl⟩ := h; exact ⟨l, hl.below hB hb⟩
  | flags => obtain ⟨l, hl⟩ := h; exact ⟨l, hl.below hB hb⟩

/-- The leaves of a struct's fields, from cell o on. -/
def fieldLeaves (P : Program) (g : TypeId → Option (List Leaf)) : Nat → List Field → Option (List Leaf)
  | _, [] => some []
  | o, f :: r => match g f.type with
    | none => none
    | some a => if f.offset == o && P.cellsOf f.type == a.length then (match fieldLeaves P g (o + a.length) r with | none => none | some b => some (a ++ b)) else none
/-- The leaves of a type, as deep as n; none, if it is no such type. -/
def leaves (P : Program) : Nat → TypeId → Option (List Leaf)
  | 0, _ => none
  | n + 1, t => match P.underlying t with
    | some (.int k) => some [.num k]
    | some .bool => some [.flag]
    | some .string => some [.text]
    | some (.slice e) => (match P.underlying e with
      | some (.int k) => if P.cellsOf e == 1 then some [.nums k] else none
      | some .bool => if P.cellsOf e == 1 then some [.flags] else none
      | _ => none)
    | some (.struct fs) => (match fieldLeaves P (leaves P n) 0 fs.toList with | none => none | some ls => if P.cellsOf t == ls.length then some ls else none)
    | _ => none

section
variable {H : Type} {enc : TypeId × Value → H} {P : Program} {w : World} {base : Nat} {spare : Nat → Bool} {held : Bool}

def AllOk (w : World) (ls : List Leaf) (cs : List Value) : Prop := cs.length = ls.length ∧ ∀ (j : Nat) (f : Leaf), ls[j]? = some f → ∃ u, cs[j]? = some u ∧ f.ok w u
theorem allOk_one {w : World} {f : Leaf} {u : Value} (h : f.ok w u) : AllOk w [f] [u] := by
  refine ⟨rfl, fun j g hj => ?_⟩
  cases j with
  | zero => injection hj with hj; subst hj; exact ⟨u, rfl, h⟩
  | succ j => simp at hj
theorem allOk_append {w : World} {a b : List Leaf} {cs ds : List Value} (h : AllOk w a cs) (k : AllOk w b ds) : AllOk w (a ++ b) (cs ++ ds) := by
  refine ⟨by simp [h.1, k.1], fun j f hj => ?_⟩
  rcases Nat.lt_or_ge j a.length with h1 | h1
  · rw [List.getElem?_append_left h1] at hj
    rw [List.getElem?_append_left (by rw [h.1]; exact h1)]
    exact h.2 j f hj
  · rw [List.getElem?_append_right h1] at hj
    rw [List.getElem?_append_right (by rw [h.1]; exact h1), h.1]
    exact k.2 _ f hj

theorem fields_ok (g : TypeId → Option (List Leaf)) (n : Nat) (hg : ∀ t ls, g t = some ls → ∀ cs x, DataW.trod enc P w base spare held n t cs = some x → AllOk w ls cs)
    (cs : List Value) : ∀ (fs : List Field) (o : Nat) (ls : List Leaf), fieldLeaves P g o fs = some ls → cs.length = o + ls.length → (∀ f ∈ fs, ∃ x, DataW.trod enc P w base spare held n f.type ((cs.drop f.offset).take (P.cellsOf f.type)) = some x) → AllOk w ls (cs.drop o) := by
  intro fs
  induction fs with
  | nil =>
    intro o ls h hl _
    injection h with h
    subst h
    refine ⟨by simp at hl ⊢; omega, fun j f hj => by simp at hj⟩
  | cons f r ih =>
    intro o ls h hl hx
    unfold fieldLeaves at h
    cases hgf : g f.type with
    | none => rw [hgf] at h; cases h
    | some a =>
      rw [hgf] at h
      simp only at h
      by_cases hc : (f.offset == o && P.cellsOf f.type == a.length) = true
      · rw [if_pos hc] at h
        simp only [Bool.and_eq_true, beq_iff_eq] at hc
        cases hr : fieldLeaves P g (o + a.length) r with
        | none => rw [hr] at h; cases h
        | some b =>
          rw [hr] at h
          injection h with h
          subst h
          simp only [List.length_append] at hl
          obtain ⟨x, hx0⟩ := hx f (by simp)
          rw [hc.1, hc.2] at hx0
          have h1 := hg _ _ hgf _ _ hx0
          have h2 := ih (o + a.length) b hr (by omega) (fun f' hf' => hx f' (by simp [hf']))
          have e : cs.drop o = (cs.drop o).take a.length ++ cs.drop (o + a.length) := by
            rw [← List.drop_drop, List.take_append_drop]
          rw [e]
          exact allOk_append h1 h2
      · rw [if_neg hc] at h; cases h

theorem row_plain {a : Addr} {n : Nat} {F : Nat → Value} (h : ∀ i, i < n → w.cell? (a.add i) = some (F i)) (hn : 0 < n) : ∃ b off, a = ⟨b, off, none⟩ ∧ ∀ i, i < n → w.cell? ⟨b, off + i, none⟩ = some (F i) := by
  obtain ⟨b, off, spot⟩ := a
  have hspot : spot = none := by simpa [Addr.add] using World.cell?_spot (h 0 hn)
  subst hspot
  exact ⟨b, off, rfl, fun j hj => by rw [← Go.WideShapes.add_plain]; exact h j hj⟩

theorem leaves_ok : ∀ (n : Nat) (t : TypeId) (ls : List Leaf), leaves P n t = some ls → ∀ (fuel : Nat) (cs : List Value) (x : DataW H × List MemPlace), DataW.trod enc P w base spare held fuel t cs = some x → AllOk w ls cs := by
  intro n
  induction n with
  | zero => intro t ls h; cases h
  | succ n ih =>
    intro t ls h fuel cs x hx
    unfold leaves at h
    cases hu : P.underlying t with
    | none => rw [hu] at h; cases h
    | some ty =>
      rw [hu] at h
      cases ty with
      | int k =>
        injection h with h; subst h
        obtain ⟨z, rfl, _, hw⟩ := DataW.trod_int hu hx
        exact allOk_one ⟨z, rfl, hw⟩
      | bool =>
        injection h with h; subst h
        obtain ⟨b, rfl, _⟩ := DataW.trod_bool hu hx
        exact allOk_one ⟨b, rfl⟩
      | string =>
        injection h with h; subst h
        obtain ⟨s, rfl, _, hs⟩ := DataW.trod_string hu hx
        exact allOk_one ⟨s, rfl, by simpa [maxLen] using hs⟩
      | slice e =>
        simp only at h
        cases he : P.underlying e with
        | none => rw [he] at h; cases h
        | some te =>
          rw [he] at h
          cases te with
          | int k =>
            simp only at h
            by_cases hc : (P.cellsOf e == 1) = true
            · rw [if_pos hc] at h
              injection h with h; subst h
              rcases open_ints hu he (by simpa using hc) hx with ⟨rfl, _⟩ | ⟨a, len, cap, zs, rfl, _, hl, hm, hz, _, hcell, hwz⟩
              · exact allOk_one ⟨[], none, 0, rfl, by simp, by simp, fun _ => rfl, fun i hi => by simp at hi, by simp⟩
              · have hlz : len ≤ zs.length := by rw [hz]; split <;> omega
                have hlen : (zs.take len).length = len := by simp; omega
                refine allOk_one ⟨zs.take len, some a, cap, by rw [hlen], by rw [hlen]; exact hl, by simpa [maxLen] using hm, by simp, fun i hi => ?_, fun z hz' => hwz z (List.mem_of_mem_take hz')⟩
                rw [hlen] at hi
                obtain ⟨b, off, rfl, hc'⟩ := row_plain hcell (by omega)
                refine ⟨b, off, rfl, ?_⟩
                rw [hc' i (by omega)]
                simp [List.getD_eq_getElem?_getD, List.getElem?_take_of_lt hi]
            · rw [if_neg hc] at h; cases h
          | bool =>
            simp only at h
            by_cases hc : (P.cellsOf e == 1) = true
            · rw [if_pos hc] at h
              injection h with h; subst h
              have hc1 : P.cellsOf e = 1 := by simpa using hc
              rcases open_slice hu hx with ⟨rfl, _⟩ | ⟨a, len, cap, m, n', D, Pl, rfl, _, hl, hm, hmm, _, hi⟩
              · exact allOk_one ⟨[], none, 0, rfl, by simp, by simp, fun _ => rfl, fun i hi => by simp at hi⟩
              · have hlm : len ≤ m := by rw [hmm]; split <;> omega
                have each : ∀ i, ∃ y : Bool, i < len → w.cell? (a.add i) = some (.bool y) := by
                  intro i
                  by_cases hil : i < len
                  · obtain ⟨cs', hc', ht'⟩ := hi i (by omega)
                    rw [hc1, Nat.mul_one] at hc'
                    obtain ⟨y, rfl, _⟩ := DataW.trod_bool he ht'
                    obtain ⟨_, _, hat⟩ := World.cells?_some hc'
                    have := hat 0 (by omega)
                    rw [add_add, Nat.add_zero] at this
                    exact ⟨y, fun _ => by simpa using this⟩
                  · exact ⟨false, fun h => absurd h hil⟩
                have hlen : ((List.range len).map fun i => Classical.choose (each i)).length = len := by simp
                refine allOk_one ⟨(List.range len).map fun i => Classical.choose (each i), some a, cap, by rw [hlen], by rw [hlen]; exact hl, by simpa [maxLen] using hm, by simp, fun i hi' => ?_⟩
                rw [hlen] at hi'
                obtain ⟨b, off, rfl, hc'⟩ := row_plain (F := fun i => .bool (Classical.choose (each i))) (fun i hil => Classical.choose_spec (each i) hil) (by omega)
                refine ⟨b, off, rfl, ?_⟩
                rw [hc' i hi']
                simp [List.getD_eq_getElem?_getD, hi']
            · rw [if_neg hc] at h; cases h
          | _ => cases h
      | struct fs =>
        obtain ⟨xs, n', rfl, _, hlen, hxl, hf⟩ := DataW.trod_struct hu hx
        simp only at h
        cases hfl : fieldLeaves P (leaves P n) 0 fs.toList with
        | none => rw [hfl] at h; cases h
        | some ls' =>
          rw [hfl] at h
          simp only at h
          by_cases hc : (P.cellsOf t == ls'.length) = true
          · rw [if_pos hc] at h
            injection h with h
            subst h
            have hc1 : P.cellsOf t = ls'.length := by simpa using hc
            have := fields_ok (P := P) (w := w) (enc := enc) (base := base) (spare := spare) (held := held) (leaves P n) n' (fun t ls hg cs x hx => ih t ls hg n' cs x hx) cs fs.toList 0 ls' hfl (by omega) (fun f hfm => by
              obtain ⟨i, hi, rfl⟩ := List.mem_iff_getElem.1 hfm
              have hi' : i < fs.size := by simpa using hi
              have h1 := hf i fs[i] (by simp [hi'])
              rw [List.getElem?_eq_getElem (show i < xs.length by omega)] at h1
              exact ⟨_, by simpa using h1⟩)
            simpa using this
          · rw [if_neg hc] at h; cases h
      | _ => cases h
end
end Go.Proofs.Ytclmdjkihijciaa
