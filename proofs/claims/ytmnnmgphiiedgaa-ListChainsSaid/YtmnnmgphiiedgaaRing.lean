/- Layer 7: what hangs on a block of a list; a ring. -/
import Derived.Test.YtmnnmgphiiedgaaList7
namespace Go.Proofs.Ytmnnmgphiiedgaa.ListMath
open MemMath
set_option linter.unusedVariables false

theorem drop_two {l : List Nat} {i a b : Nat} (ha : l[i]? = some a) (hb : l[i + 1]? = some b) : ∃ t, l.drop i = a :: b :: t := by
  obtain ⟨h1, e1⟩ := List.getElem?_eq_some_iff.1 ha
  obtain ⟨h2, e2⟩ := List.getElem?_eq_some_iff.1 hb
  exact ⟨l.drop (i + 1 + 1), by rw [List.drop_eq_getElem_cons h1, List.drop_eq_getElem_cons h2, e1, e2]⟩
theorem Chain.next {L : List Nat} {h : Nat} {l : List Nat} (hc : Chain L h l) {i a b : Nat} (ha : l[i]? = some a) (hb : l[i + 1]? = some b) : linkAt L a = b := by
  have h1 := hc.drop i a ha
  obtain ⟨t, e⟩ := drop_two ha hb
  rw [e] at h1
  exact h1.2.2.2.1
theorem Chain.at {L : List Nat} {h : Nat} {l : List Nat} (hc : Chain L h l) {i a : Nat} (ha : l[i]? = some a) : a ≠ 0 ∧ a + 8 ≤ L.length := by
  have h1 := hc.drop i a ha
  obtain ⟨h2, e2⟩ := List.getElem?_eq_some_iff.1 ha
  rw [List.drop_eq_getElem_cons h2] at h1
  obtain ⟨e, x, y, _⟩ := h1
  exact ⟨by rw [e]; exact x, by rw [e]; exact y⟩
/-- The last one's link is laid at the first: it never ends. -/
theorem ring_none {L : List Nat} {hd : Nat} {R : List Nat} {z n : Nat} (hc : Chain L hd R) (hp : R.Pairwise Apart8) (hn : R.length = n + 1) (hz : R[n]? = some z) (hh : hd ≤ 18446744073709551615) (m : Nat) : rowF (put8 L z hd) m hd = none := by
  have hz8 := (hc.at hz).2
  have h0 : R[0]? = some hd := by
    cases R with
    | nil => simp at hn
    | cons x t => rw [hc.1]; rfl
  refine rowF_ring (S := fun b => ∃ i, R[i]? = some b) ?_ m hd ⟨0, h0⟩
  rintro b ⟨i, hi⟩
  refine ⟨(hc.at hi).1, ?_⟩
  have hil := (List.getElem?_eq_some_iff.1 hi).1
  by_cases he : i = n
  · subst he
    rw [hz] at hi
    injection hi with hi
    subst hi
    exact ⟨0, by rw [link_same hz8 hh]; exact h0⟩
  · have hnext : R[i + 1]? = some (R[i + 1]'(by omega)) := List.getElem?_eq_getElem _
    have hap : Apart8 z b := by
      obtain ⟨h1, e1⟩ := List.getElem?_eq_some_iff.1 hi
      obtain ⟨h2, e2⟩ := List.getElem?_eq_some_iff.1 hz
      have := List.pairwise_iff_getElem.1 hp i n h1 h2 (by omega)
      rw [e1, e2] at this
      unfold Apart8 at this ⊢; omega
    exact ⟨i + 1, by rw [link_put hz8 (hc.at hi).2 hap, hc.next hi hnext]; exact hnext⟩
theorem chainN_some {L : List Nat} {a : Nat} {m : Int} {D : List Nat} (hc : Chain L a D) (hm : m = (D.length : Int)) (hD : D.length ≤ L.length) : chainN L a m = some D := by
  unfold chainN; exact rowF_chain hc (by omega)
theorem chainN_short {L : List Nat} {a : Nat} {m : Int} {D : List Nat} (hc : Chain L a D) (h0 : 0 ≤ m) (hm : m < (D.length : Int)) : chainN L a m = none := by
  unfold chainN; exact rowF_short hc (by omega)
end Go.Proofs.Ytmnnmgphiiedgaa.ListMath
namespace Go.Proofs.Ytmnnmgphiiedgaa
open Go.RowKit ListMath
theorem chain_some {w : World} (C : Li w) {L D : List Nat} {h : Nat} {m : Int} (e : chainN L h m = some D) (hh : U64B h) (h1 : -9223372036854775808 ≤ m) (h2 : m ≤ 9223372036854775807) {p g : Nat} (w' : World) (hw : Below w.heap.size w w') (hm : IsMem w' p g L) :
    Calls Try.prog 22 #[.pointer (some ⟨p, 0, none⟩), .int .u64 (h : Int), .int .i64 m] w' fun e w2 => e = .returned (.tuple #[.agg #[.int .u64 (h : Int), .int .i64 (D.length : Int)], .int .i64 0]) ∧ Below w'.heap.size w' w2 := by
  have := C.chain w' hw hm hh h1 h2
  rw [e] at this
  exact this
theorem chain_none {w : World} (C : Li w) {L : List Nat} {h : Nat} {m : Int} (e : chainN L h m = none) (hh : U64B h) (h1 : -9223372036854775808 ≤ m) (h2 : m ≤ 9223372036854775807) {p g : Nat} (w' : World) (hw : Below w.heap.size w w') (hm : IsMem w' p g L) :
    Calls Try.prog 22 #[.pointer (some ⟨p, 0, none⟩), .int .u64 (h : Int), .int .i64 m] w' fun e w2 => e = .returned (.tuple #[.agg #[.int .u64 0, .int .i64 0], .int .i64 3]) ∧ Below w'.heap.size w' w2 := by
  have := C.chain w' hw hm hh h1 h2
  rw [e] at this
  exact this
end Go.Proofs.Ytmnnmgphiiedgaa
