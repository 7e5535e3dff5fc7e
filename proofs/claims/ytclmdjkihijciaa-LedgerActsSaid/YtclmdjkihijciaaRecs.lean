/- A slice of structs that came in, its cells read leaf by leaf. Over whatever program. -/
import Derived.Test.YtclmdjkihijciaaFlat
namespace Go.Proofs.Ytclmdjkihijciaa
open Go.ChangeShapes Go.WideShapes Go.RowKit Go.Deep
set_option linter.unusedVariables false

/-- Element i's leaf j is F i j. -/
def Recs (w : World) (v : Value) (ls : List Leaf) (len : Nat) (F : Nat → Nat → Value) : Prop :=
  ∃ a cap, v = .slice a len cap ∧ len ≤ cap ∧ cap ≤ 9223372036854775807 ∧ (a = none → cap = 0) ∧
    (∀ i, i < len → ∃ b off, a = some ⟨b, off, none⟩ ∧ ∀ j, j < ls.length → w.cell? ⟨b, off + i * ls.length + j, none⟩ = some (F i j)) ∧
    ∀ i, i < len → ∀ (j : Nat) (f : Leaf), ls[j]? = some f → f.ok w (F i j)
theorem Recs.below {w w' : World} {v : Value} {ls : List Leaf} {len : Nat} {F : Nat → Nat → Value} (h : Recs w v ls len F) {B : Nat} (hB : w.heap.size ≤ B) (hb : Below B w w') : Recs w' v ls len F := by
  obtain ⟨a, cap, e, h1, h2, h3, h4, h5⟩ := h
  refine ⟨a, cap, e, h1, h2, h3, fun i hi => ?_, fun i hi j f hj => (h5 i hi j f hj).below hB hb⟩
  obtain ⟨b, off, ea, hc⟩ := h4 i hi
  exact ⟨b, off, ea, fun j hj => cell_later (hc j hj) hB hb⟩
theorem Recs.len {w : World} {a : Option Addr} {n cap : Nat} {ls : List Leaf} {len : Nat} {F : Nat → Nat → Value} (h : Recs w (.slice a n cap) ls len F) : n = len ∧ n ≤ cap ∧ cap ≤ 9223372036854775807 := by
  obtain ⟨a', cap', e, h1, h2, _⟩ := h
  injection e with _ e2 e3
  subst e2 e3
  exact ⟨rfl, h1, h2⟩
theorem Recs.elem {w : World} {a : Option Addr} {n cap : Nat} {ls : List Leaf} {len : Nat} {F : Nat → Nat → Value} (h : Recs w (.slice a n cap) ls len F) {i : Nat} (hi : i < len) :
    ∃ b off, a = some ⟨b, off, none⟩ ∧ ∀ j, j < ls.length → w.cell? ⟨b, off + i * ls.length + j, none⟩ = some (F i j) := by
  obtain ⟨a', cap', e, _, _, _, h4, _⟩ := h
  injection e with e1 _ _
  subst e1
  exact h4 i hi
theorem Recs.leaf {w : World} {v : Value} {ls : List Leaf} {len : Nat} {F : Nat → Nat → Value} (h : Recs w v ls len F) {i : Nat} (hi : i < len) (j : Nat) (f : Leaf) (hj : ls[j]? = some f) : f.ok w (F i j) := by
  obtain ⟨_, _, _, _, _, _, _, h5⟩ := h
  exact h5 i hi j f hj

section
variable {H : Type} {enc : TypeId × Value → H} {P : Program} {w : World} {base : Nat} {spare : Nat → Bool} {held : Bool}
theorem open_recs (n : Nat) {t e : TypeId} {ls : List Leaf} (ht : P.underlying t = some (.slice e)) (hls : leaves P n e = some ls) (hC : P.cellsOf e = ls.length) (hpos : 0 < ls.length) {fuel : Nat} {cs : List Value} {x : DataW H × List MemPlace}
    (h : DataW.trod enc P w base spare held fuel t cs = some x) : ∃ (a : Option Addr) (len cap : Nat) (F : Nat → Nat → Value), cs = [.slice a len cap] ∧ Recs w (.slice a len cap) ls len F := by
  rcases open_slice ht h with ⟨hcs, _⟩ | ⟨a, len, cap, m, n', D, Pl, hcs, hb, hl, hm, hmm, hx, hi⟩
  · exact ⟨none, 0, 0, fun _ _ => undef, hcs, none, 0, rfl, by simp, by simp, fun _ => rfl, fun i hi => by omega, fun i hi => by omega⟩
  · have hlm : len ≤ m := by rw [hmm]; split <;> omega
    have each : ∀ i, i < len → ∀ j f, ls[j]? = some f → ∃ u, w.cell? (a.add (i * ls.length + j)) = some u ∧ f.ok w u := by
      intro i hil j f hj
      obtain ⟨cs', hc, ht'⟩ := hi i (by omega)
      rw [hC] at hc
      have hok := leaves_ok (P := P) (w := w) (enc := enc) (base := base) (spare := spare) (held := held) n e ls hls n' cs' _ ht'
      obtain ⟨_, _, hat⟩ := World.cells?_some hc
      obtain ⟨u, hu, ho⟩ := hok.2 j f hj
      refine ⟨u, ?_, ho⟩
      have hjl : j < ls.length := (List.getElem?_eq_some_iff.1 hj).1
      rw [← add_add, hat j hjl]; exact hu
    refine ⟨some a, len, cap, fun i j => (w.cell? (a.add (i * ls.length + j))).getD undef, hcs, some a, cap, rfl, hl, by simpa [maxLen] using hm, by simp, fun i hil => ?_, fun i hil j f hj => ?_⟩
    · obtain ⟨f0, hf0⟩ : ∃ f0, ls[0]? = some f0 := ⟨_, List.getElem?_eq_getElem hpos⟩
      obtain ⟨u0, hu0, _⟩ := each 0 (by omega) 0 f0 hf0
      obtain ⟨b, off, spot⟩ := a
      have hspot : spot = none := by
        have := World.cell?_spot hu0
        simpa [Addr.add] using this
      subst hspot
      refine ⟨b, off, rfl, fun j hj => ?_⟩
      obtain ⟨u, hu, _⟩ := each i hil j _ (List.getElem?_eq_getElem hj)
      simp only [hu, Option.getD_some]
      rw [Go.WideShapes.add_plain] at hu
      rw [Nat.add_assoc]; exact hu
    · obtain ⟨u, hu, ho⟩ := each i hil j f hj
      simp only [hu, Option.getD_some]
      exact ho
end

/-! ### What a leaf holds -/
def asInt : Value → Int
  | .int _ n => n
  | _ => 0
def asBool : Value → Bool
  | .bool b => b
  | _ => false
theorem leaf_int {w : World} {k : IntKind} {u : Value} (h : (Leaf.num k).ok w u) : u = .int k (asInt u) ∧ (Lit.int k (asInt u)).wf = true := by
  obtain ⟨n, rfl, hw⟩ := h; exact ⟨rfl, hw⟩
theorem leaf_bool {w : World} {u : Value} (h : Leaf.flag.ok w u) : u = .bool (asBool u) := by
  obtain ⟨b, rfl⟩ := h; rfl

/-! ### The elder readings -/
theorem NumsAt.ints {w : World} {a : Option Addr} {n cap : Nat} {l : List Int} (h : NumsAt w .i64 (.slice a n cap) l) : IsInts w (.slice a n cap) l := by
  obtain ⟨a', cap', e, h1, h2, h3, h4, h5⟩ := h
  injection e with e1 e2 e3
  subst e1 e2 e3
  refine ⟨?_, fun n hn => .of (h5 n hn), by omega, by intro a n c h; injection h; omega⟩
  by_cases h0 : 0 < l.length
  · obtain ⟨b, off, rfl, _⟩ := h4 0 h0
    refine .inl ⟨b, off, _, rfl, fun j hj => ?_⟩
    obtain ⟨b', off', e, hc⟩ := h4 j hj
    injection e with e
    injection e with eb eo _
    subst eb eo
    exact hc
  · have hl : l = [] := List.length_eq_zero_iff.1 (by omega)
    subst hl
    exact .inr ⟨rfl, _, _, rfl, h3⟩
theorem Recs.trips {w : World} {a : Option Addr} {n cap len : Nat} {F : Nat → Nat → Value} (h : Recs w (.slice a n cap) [.num .i64, .num .i64, .num .i64] len F) : IsTrips w (.slice a n cap) ((List.range len).map fun i => (asInt (F i 0), asInt (F i 1), asInt (F i 2))) := by
  obtain ⟨rfl, hn, hc⟩ := h.len
  have hlen : ((List.range n).map fun i => (asInt (F i 0), asInt (F i 1), asInt (F i 2))).length = n := by simp
  refine ⟨?_, ?_, by omega, by intro a n c h; injection h; omega⟩
  · by_cases h0 : 0 < n
    · obtain ⟨b, off, rfl, _⟩ := h.elem h0
      refine .inl ⟨b, off, _, by rw [hlen], fun j hj => ?_⟩
      rw [hlen] at hj
      obtain ⟨b', off', e, hcell⟩ := h.elem hj
      injection e with e
      injection e with eb eo _
      subst eb eo
      have c0 := hcell 0 (by decide)
      have c1 := hcell 1 (by decide)
      have c2 := hcell 2 (by decide)
      rw [(leaf_int (h.leaf hj 0 _ rfl)).1] at c0
      rw [(leaf_int (h.leaf hj 1 _ rfl)).1] at c1
      rw [(leaf_int (h.leaf hj 2 _ rfl)).1] at c2
      have e : ((List.range n).map fun i => (asInt (F i 0), asInt (F i 1), asInt (F i 2))).getD j (0, 0, 0) = (asInt (F j 0), asInt (F j 1), asInt (F j 2)) := by simp [List.getD_eq_getElem?_getD, hj]
      rw [e]
      exact ⟨c0, c1, c2⟩
    · obtain rfl : n = 0 := by omega
      obtain ⟨a', cap', e, _, _, h3, _⟩ := h
      injection e with e1 _ e3
      subst e1 e3
      exact .inr ⟨by simp, _, _, rfl, h3⟩
  · intro t ht
    obtain ⟨i, hi, rfl⟩ := List.mem_map.1 ht
    have hi' : i < n := by simpa using hi
    exact ⟨.of (leaf_int (h.leaf hi' 0 _ rfl)).2, .of (leaf_int (h.leaf hi' 1 _ rfl)).2, .of (leaf_int (h.leaf hi' 2 _ rfl)).2⟩
end Go.Proofs.Ytclmdjkihijciaa
