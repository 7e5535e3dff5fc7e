/- Rows of bools in blocks that are known whole. Over whatever program. -/
import Derived.Test.YtomepdgddpajoaaDoorBlk
import Derived.Test.YtomepdgddpajoaaDoorMarkMath
namespace Go.Proofs.YtomepdgddpajoaaDoor
open Go.RowKit
set_option linter.unusedVariables false
set_option maxRecDepth 100000

/-- A block of bools, e their type. -/
def BRow (w : World) (e : TypeId) (g : Nat) (L : List Bool) : Prop := Blk w g e (L.map Value.bool).toArray
theorem BRow.lt {w : World} {e : TypeId} {g : Nat} {L : List Bool} (h : BRow w e g L) : g < w.heap.size := Blk.lt h
theorem BRow.cell {w : World} {e : TypeId} {g : Nat} {L : List Bool} (h : BRow w e g L) (j : Nat) (hj : j < L.length) : w.cell? ⟨g, j, none⟩ = some (.bool (L.getD j false)) := by
  rw [Blk.cell h, List.getElem?_toArray, List.getElem?_map]
  simp [List.getD_eq_getElem?_getD, hj]
theorem BRow.frozen {w : World} {e : TypeId} {g : Nat} {L : List Bool} (h : BRow w e g L) (j : Nat) : w.frozen? ⟨g, j, none⟩ = false := Blk.frozen h j
theorem BRow.upd {S : Nat → Prop} {w w' : World} {e : TypeId} {g : Nat} {L : List Bool} (h : BRow w e g L) (u : Upd S w w') (hs : ¬ S g) : BRow w' e g L := Blk.upd h u hs
theorem BRow.drew {w : World} {e : TypeId} {g : Nat} {L : List Bool} (h : BRow w e g L) : BRow w.drew e g L := h
theorem BRow.alloc {w : World} {e : TypeId} {g : Nat} {L : List Bool} (h : BRow w e g L) (o : Obj) : BRow (w.alloc o) e g L := Blk.alloc h o
theorem BRow.put {w : World} {e : TypeId} {g : Nat} {L : List Bool} (h : BRow w e g L) (p : Nat) (x : Bool) : BRow (w.setCell ⟨g, p, none⟩ (.bool x)) e g (L.set p x) := by
  have := Blk.put h p (.bool x)
  unfold BRow
  rw [List.map_set]
  rw [List.setIfInBounds_toArray] at this
  exact this
theorem made_bools (n : Nat) : madeCells (Value.cells (.bool false)) n = ((MarkMath.rep n false).map Value.bool).toArray := by
  unfold MarkMath.rep
  apply Array.ext
  · simp [madeCells]
  · intro i h1 h2
    simp [madeCells, Value.cells, Nat.mod_one]

section
variable {P : Program}
/-- make of bools, all false. -/
theorem wpList_make_bools {w : World} {ops : Array Oper} {rest : List Oper} {o : Oper} {a : Act} {Q : Exit → Act → World → Prop}
    (hgd : o.guard = none) (l c : Operand) (t : TypeId) (ho : o.op = .makeSlice t l c)
    (e : TypeId) (i : TypeInfo) (ht : P.underlying t = some (.slice e)) (hi : P.info? e = some i) (hz : i.zero = some (.bool false)) (hsize : i.size = 1) (hby : i.bytes = 1)
    (k k' : IntKind) (C : Int) (n : Nat) (hl : a.eval l = .int k C) (hc : a.eval c = .int k' C) (hC : C = (n : Int)) (hn : n ≤ 1000000000000)
    (hK : ∀ w', BRow w' e w.heap.size (MarkMath.rep n false) → Upd (fun _ => False) w w' → w'.heap.size = w.heap.size + 1 → wpList P ops Q rest (a.put o.dst (.slice (some ⟨w.heap.size, 0, none⟩) n n)) w') :
    wpList P ops Q (o :: rest) a w := by
  refine wpList_plain hgd fun K hK' => ?_
  subst hC
  have hrun := run_make (P := P) w t e i (.bool false) ht hi hz k k' (n : Int) (n : Int) (by omega) (by omega) (by rw [hby]; omega) (by omega)
  simp only [Int.toNat_natCast, hsize, Nat.mul_one, made_bools] at hrun
  unfold Oper.wp
  simp only [execOp, ho, hl, hc, Sem.run_bind, hrun, Result.andThen_ok, Sem.run_pure]
  exact hK' _ _ (hK _ (heap_alloc_new w _) ((Upd.refl _ _).alloc _) (by simp))
end
end Go.Proofs.YtomepdgddpajoaaDoor
