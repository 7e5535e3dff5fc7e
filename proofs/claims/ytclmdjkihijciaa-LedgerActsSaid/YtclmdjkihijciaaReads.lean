/- From the readings of what came in (XFlat, XRecs) to those of XVec. -/
import Derived.Test.YtclmdjkihijciaaVec
import Derived.Test.YtclmdjkihijciaaRecs
namespace Go.Proofs.Ytclmdjkihijciaa
open Go.RowKit
set_option linter.unusedVariables false

theorem FlagsAt.seq {w : World} {v : Value} {l : List Bool} (h : FlagsAt w v l) : Seq Elem.bools w v l := by
  obtain ⟨a, cap, rfl, _, _, h3, h4⟩ := h
  by_cases h0 : 0 < l.length
  · obtain ⟨b, off, rfl, _⟩ := h4 0 h0
    refine .inl ⟨b, off, cap, rfl, fun j u hj => ?_⟩
    have hjl : j < l.length := by have := (List.getElem?_eq_some_iff.1 hj).1; rw [Elem.length_all] at this; simpa [Elem.bools] using this
    obtain ⟨b', off', e, hc⟩ := h4 j hjl
    injection e with e
    injection e with eb eo _
    subst eb eo
    rw [hc]
    have h5 := Elem.bools.all_at (l := l) (i := j) (x := l.getD j false) (by simp [List.getD_eq_getElem?_getD, hjl]) 0 (by decide)
    rw [show j * Elem.bools.size + 0 = j by simp [Elem.bools]] at h5
    rw [h5] at hj
    simpa [Elem.bools] using hj
  · have hl : l = [] := List.length_eq_zero_iff.1 (by omega)
    subst hl
    exact .inr ⟨rfl, _, _, rfl, h3⟩

theorem u8_bd {n : Int} (h : (Lit.int .u8 n).wf = true) : 0 ≤ n ∧ n ≤ 255 := by
  simp [Lit.wf, IntKind.min, IntKind.max, IntKind.signed, IntKind.bits] at h; omega
/-- A struct of two ints and some bools, among such. -/
theorem Recs.act {w : World} {a : Option Addr} {n cap len : Nat} {F : Nat → Nat → Value} (h : Recs w (.slice a n cap) [.num .i64, .num .i64, .flags] len F) {i : Nat} (hi : i < len) :
    ∃ b off x y A m c, ∃ lf : List Bool, a = some ⟨b, off, none⟩ ∧ w.cell? ⟨b, off + i * 3, none⟩ = some (.int .i64 x) ∧ w.cell? ⟨b, off + i * 3 + 1, none⟩ = some (.int .i64 y) ∧ w.cell? ⟨b, off + i * 3 + 2, none⟩ = some (.slice A m c) ∧ FlagsAt w (.slice A m c) lf ∧ I64 x ∧ I64 y := by
  obtain ⟨b, off, rfl, hc⟩ := h.elem hi
  have c0 := hc 0 (by simp)
  have c1 := hc 1 (by simp)
  have c2 := hc 2 (by simp)
  have l0 := leaf_int (h.leaf hi 0 _ rfl)
  have l1 := leaf_int (h.leaf hi 1 _ rfl)
  have l2 := h.leaf hi 2 _ rfl
  obtain ⟨lf, A, c, e, hl⟩ := l2
  rw [l0.1] at c0
  rw [l1.1] at c1
  rw [e] at c2
  exact ⟨b, off, asInt (F i 0), asInt (F i 1), A, lf.length, c, lf, rfl, c0, c1, c2, ⟨A, c, rfl, hl⟩, .of l0.2, .of l1.2⟩
theorem FlagsAt.len {w : World} {a : Option Addr} {n cap : Nat} {l : List Bool} (h : FlagsAt w (.slice a n cap) l) : n = l.length := by
  obtain ⟨_, _, e, _⟩ := h; injection e
end Go.Proofs.Ytclmdjkihijciaa
