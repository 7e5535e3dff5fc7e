/- append onto what may be appended to, in a fence (the body of a range over a function); what a caller's invariant may say of such a slice. Over whatever program. -/
import Derived.Test.YtmnnmgphiiedgaaVec
import Derived.OwnWalkIn
import Derived.RangeFuncFrom
namespace Go.Proofs.Ytmnnmgphiiedgaa
open Go.RowKit
set_option linter.unusedVariables false

variable {α : Type} {E : Elem α} {P : Program}
theorem wpListIn_append_vec {F : Fence} {n : Nat} {w : World} {ops : Array Oper} {rest : List Oper} {o : Oper} {a : Act} {Q : Exit → Act → World → Prop} (hgd : o.guard = none) (s x : Operand) (t : TypeId)
    (ho : o.op = .call { callee := .builtin .append, args := #[s, x], argTypes := #[t, t] })
    (e : TypeId) (i : TypeInfo) (z : Value) (bytes : Nat) (ht : P.underlying t = some (.slice e)) (hi : P.info? e = some i) (hz : i.zero = some z) (hsize : i.size = E.size) (hby : i.bytes = bytes) (hzs : z.cells.size = E.size)
    (v sv : Value) (l m : List α) (hs : a.eval s = v) (hx : a.eval x = sv) (hv : Vec E w v l) (hsv : Seq E w sv m) (h63 : l.length + m.length ≤ maxLen) (hbytes : (l.length + m.length) * bytes ≤ 140737488355328)
    (h : ∀ v' w', Vec E w' v' (l ++ m) → Upd (In v) w w' → (∀ k, In v' k → In v k ∨ w.heap.size ≤ k) → wpListIn F n P ops Q rest (a.put o.dst v') w') : wpListIn F n P ops Q (o :: rest) a w := by
  refine wpListIn_plain hgd fun K hK' => ?_
  obtain ⟨v', w', hrun, r1, r2, r3⟩ := run_append_vec (P := P) w t o.type e i z bytes ht hi hz hsize hby hzs v sv l m hv hsv h63 hbytes
  unfold Oper.wpIn
  refine ⟨?_, ?_⟩
  · simp [Oper.about, ho, resolve, Target.leads, Sem.run_pure]
  · rw [Oper.semAt_plain F _ _ (by rw [ho]; intro c hc'; cases hc')]
    simp [execOp, ho, resolve, invoke, builtin, hs, hx, hrun, Result.andThen]
    exact hK' _ _ (h v' w' r1 r2 r3)
/-- Whatever has an element lies in cells. -/
theorem Vec.cells {w : World} {v : Value} {l : List α} (h : Vec E w v l) (hl : l ≠ []) {k : Nat} (hk : In v k) : ∃ o : Obj, w.heap[k]? = some o ∧ o.isCells = true := by
  rcases h with ⟨rfl, rfl⟩ | ⟨g, off, cap, rfl, hg, _, _, hc, _⟩
  · exact absurd rfl hl
  · obtain rfl := in_blk' hk
    cases l with
    | nil => exact absurd rfl hl
    | cons x t =>
      have hlen : 0 < (E.all (x :: t)).length := by rw [E.length_all, List.length_cons, Nat.add_mul]; have := E.pos; omega
      exact cells_of_cell (hc 0 _ (List.getElem?_eq_getElem hlen))
where in_blk' {b o n c k : Nat} (h : In (.slice (some ⟨b, o, none⟩) n c) k) : b = k := by injection h
theorem vec_kept {A B : World} {row : Option Nat} (hg : A.grownBy B row) (hr : ∀ r, row = some r → ∃ o : Obj, A.heap[r]? = some o ∧ o.isCells = false) {v : Value} {l : List α} (h : Vec E A v l) : Vec E B v l := by
  rcases h with h | ⟨g, off, cap, rfl, hl, hn, hm, hc, hsp⟩
  · exact .inl h
  · refine .inr ⟨g, off, cap, rfl, Nat.lt_of_lt_of_le hl hg.size, hn, hm, fun j x hj => cell_kept (hc j x hj) hg hr, fun j hj => ?_⟩
    obtain ⟨h1, h2⟩ := hsp j hj
    obtain ⟨u, hu⟩ := Option.isSome_iff_exists.1 h1
    exact ⟨by rw [cell_kept hu hg hr]; rfl, (frozen_kept hu hg hr).trans h2⟩
theorem vec_own {β : Type} (v : Value) (f : β → List α) : Own (fun s W => Vec E W v (f s)) := fun s X Y row hs hg hr => vec_kept hg hr hs
theorem size_own {β : Type} (n : Nat) : Own (fun (_ : β) W => n ≤ W.heap.size) := fun s X Y row hs hg hr => Nat.le_trans hs hg.size
theorem pure_own {β : Type} (φ : β → Prop) : Own (fun s (_ : World) => φ s) := fun s X Y row hs _ _ => hs
theorem own_and {β : Type} {I I' : β → World → Prop} (h : Own I) (h' : Own I') : Own (fun s W => I s W ∧ I' s W) := fun s X Y row hs hg hr => ⟨h s X Y row hs.1 hg hr, h' s X Y row hs.2 hg hr⟩
theorem own_ex {β γ : Type} {I : γ → β → World → Prop} (h : ∀ y, Own (I y)) : Own (fun s W => ∃ y, I y s W) := fun s X Y row ⟨y, hs⟩ hg hr => ⟨y, h y s X Y row hs hg hr⟩
theorem cells_own {A B : World} {row : Option Nat} (hg : A.grownBy B row) (hr : ∀ r, row = some r → ∃ o : Obj, A.heap[r]? = some o ∧ o.isCells = false) {b : Nat} {t : TypeId} {cs : Array Value} (hb : Blk A b t cs) : Blk B b t cs :=
  (grownBy_keeps_cells hg hr hb rfl).trans hb
theorem blk_own {β : Type} (b : Nat) (t : TypeId) (f : β → Array Value) : Own (fun s W => Blk W b t (f s)) := fun s X Y row hs hg hr => cells_own hg hr hs
theorem Blk.putObj {w : World} {b : Nat} {t : TypeId} {cs : Array Value} (h : Blk w b t cs) {l : Nat} {x : Obj} (y : Obj) (hl : w.heap[l]? = some x) (hx : x.isCells = false) : Blk (w.putObj l y) b t cs :=
  cells_own (grownBy_putObj' w l y) (fun r e => by cases e; exact ⟨x, hl, hx⟩) h
theorem Vec.putObj {w : World} {v : Value} {l : List α} (h : Vec E w v l) {k : Nat} {x : Obj} (y : Obj) (hl : w.heap[k]? = some x) (hx : x.isCells = false) : Vec E (w.putObj k y) v l :=
  vec_kept (grownBy_putObj' w k y) (fun r e => by cases e; exact ⟨x, hl, hx⟩) h
/-- What was written lies in cells: whatever is no cells lies as it lay. -/
theorem Upd.othersOf {S : Nat → Prop} {w w' : World} (h : Upd S w w') (hS : ∀ k, S k → ∃ o : Obj, w.heap[k]? = some o ∧ o.isCells = true) : KeepsOthers w w' :=
  ⟨h.size, fun k o hk ho => (h.block k (Array.getElem?_eq_some_iff.1 hk).1 (fun e => by
    obtain ⟨o', h1, h2⟩ := hS k e
    rw [h1] at hk; cases hk; rw [h2] at ho; cases ho)).trans hk⟩
end Go.Proofs.Ytmnnmgphiiedgaa
