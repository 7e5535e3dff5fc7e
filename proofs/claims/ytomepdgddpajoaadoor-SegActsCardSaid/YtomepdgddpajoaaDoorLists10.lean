/- Lists10: texts of layers below, joined (IterMath VecIn ListAux ListCl ListG ListIt ListCh ListLs ListRt ListAl ListPp ListJn). -/
import Derived.Test.YtomepdgddpajoaaDoorChains
import Derived.Test.YtomepdgddpajoaaDoorVec
import Derived.OwnWalkIn
import Derived.RangeFuncFrom
import Derived.Test.YtomepdgddpajoaaDoorPlaces
import Derived.Test.YtomepdgddpajoaaDoorPushMath
import Derived.Test.YtomepdgddpajoaaDoorQuiet
import Derived.Laws.Small
import Derived.Deep.RegionHeld3
import Derived.Test.YtomepdgddpajoaaDoorElems
import Derived.Test.YtomepdgddpajoaaDoorSame7
import Derived.Test.YtomepdgddpajoaaDoorMem2
import Derived.Test.YtomepdgddpajoaaDoorMem3
import Derived.RangeFuncNested
import Derived.RangeFuncBound
import Derived.RangeFuncCalls
import Derived.RangeFuncLeaves
import Derived.RangeFuncBox
import Derived.Shelf.Abstract
import Derived.Shelf.RegionOpen
import Derived.WalkKit
import Derived.TacticsInMore
import Derived.LoopNIn
import Derived.LoopIn
import Derived.IntWalk
import Derived.Test.YtomepdgddpajoaaDoorMemW
import Derived.LaidEqlPtr
/- What the landed iterator hands on: each block's address with its link. -/
namespace Go.Proofs.YtomepdgddpajoaaDoor.ListMath
set_option linter.unusedVariables false

def walkF (L : List Nat) : Nat → Nat → List (Nat × Nat)
  | 0, _ => []
  | m + 1, h => if h = 0 then [] else if h + 8 ≤ L.length then (h, linkAt L h) :: walkF L m (linkAt L h) else []
def endF : Nat → List (Nat × Nat) → Nat
  | h, [] => h
  | _, x :: t => endF x.2 t
theorem endF_snoc (t : List (Nat × Nat)) (x : Nat × Nat) : ∀ h, endF h (t ++ [x]) = x.2 := by
  induction t with
  | nil => intro h; rfl
  | cons y t ih => intro h; exact ih _
theorem walkF_zero (L : List Nat) (m : Nat) : walkF L m 0 = [] := by cases m <;> simp [walkF]
theorem rowF_walk (L : List Nat) : ∀ (m h : Nat), rowF L m h = if endF h (walkF L m h) = 0 then some ((walkF L m h).map (·.1)) else none
  | 0, h => by simp [rowF, walkF, endF]
  | m + 1, h => by
    by_cases h0 : h = 0
    · subst h0; simp [rowF, walkF, endF]
    · by_cases h8 : h + 8 ≤ L.length
      · simp only [rowF, walkF, if_neg h0, if_pos h8, endF, List.map_cons]
        rw [rowF_walk L m]
        split <;> rfl
      · simp [rowF, walkF, h0, h8, endF]
theorem walkF_len (L : List Nat) : ∀ (m h : Nat), (walkF L m h).length ≤ m
  | 0, h => by simp [walkF]
  | m + 1, h => by
    have := walkF_len L m (linkAt L h)
    unfold walkF
    split
    · simp
    · split
      · simp; omega
      · simp
theorem walkF_in {L : List Nat} {m h k : Nat} (hm : 0 < m) (h0 : h ≠ 0) (h8 : h + 8 ≤ L.length) (hk : linkAt L h = k) : walkF L m h = (h, k) :: walkF L (m - 1) k := by
  obtain ⟨d, rfl⟩ : ∃ d, m = d + 1 := ⟨m - 1, by omega⟩
  rw [show d + 1 - 1 = d by omega, ← hk]
  show (if h = 0 then _ else if h + 8 ≤ L.length then _ else _ : List (Nat × Nat)) = _
  rw [if_neg h0, if_pos h8]
theorem walkF_out {L : List Nat} {m h : Nat} (h8 : ¬ h + 8 ≤ L.length) : walkF L m h = [] := by
  cases m with
  | zero => rfl
  | succ d =>
    unfold walkF; split
    · rfl
    · rfl
end Go.Proofs.YtomepdgddpajoaaDoor.ListMath
/- append onto what may be appended to, in a fence (the body of a range over a function); what a caller's invariant may say of such a slice. Over whatever program. -/
namespace Go.Proofs.YtomepdgddpajoaaDoor
open Go.RowKit
set_option linter.unusedVariables false

variable {α : Type} {E : Elem α} {P : Program}
theorem wpListIn_append_vec {F : Fence} {n : Nat} {w : World} {ops : Array Oper} {rest : List Oper} {o : Oper} {a : Act} {Q : Exit → Act → World → Prop} (hgd : o.guard = none) (s x : Operand) (t : TypeId)
    (ho : o.op = .call { callee := .builtin .append, args := #[s, x], argTypes := #[t, t] })
    (e : TypeId) (i : TypeInfo) (z : Value) (bytes : Nat) (ht : P.underlying t = some (.slice e)) (hi : P.info? e = some i) (hz : i.zero = some z) (hsize : i.size = E.size) (hby : i.bytes = bytes) (hzs : z.cells.size = E.size)
    (v sv : Value) (l m : List α) (hs : a.eval s = v) (hx : a.eval x = sv) (hv : Vec E w v l) (hsv : Seq E w sv m) (h63 : l.length + m.length ≤ maxLen) (hbytes : (l.length + m.length) * bytes ≤ 140737488355328)
    (h : ∀ v' w', Vec E w' v' (l ++ m) → Upd (In v) w w' → (∀ k, In v' k → In v k ∨ w.heap.size ≤ k) → wpListIn F n P ops Q rest (a.put o.dst v') w') : wpListIn F n P ops Q (o :: rest) a w := by
  refine wpListIn_plain hgd fun K hK' => ?_
  obtain ⟨v', w', hrun, r1, r2, r3⟩ := run_append_vec (P := P) w t o.type e i z bytes ht hi hz hsize hby hzs v sv l m hv hsv h63 hbytes
  unfold Oper.wpIn
  refine ⟨?_, ?_⟩
  · simp [Oper.about, ho, resolve, Target.leads, Sem.run_pure]
  · rw [Oper.semAt_plain F _ _ (by rw [ho]; intro c hc'; cases hc')]
    simp [execOp, ho, resolve, invoke, builtin, hs, hx, hrun, Result.andThen]
    exact hK' _ _ (h v' w' r1 r2 r3)
/-- Whatever has an element lies in cells. -/
theorem Vec.cells {w : World} {v : Value} {l : List α} (h : Vec E w v l) (hl : l ≠ []) {k : Nat} (hk : In v k) : ∃ o : Obj, w.heap[k]? = some o ∧ o.isCells = true := by
  rcases h with ⟨rfl, rfl⟩ | ⟨g, off, cap, rfl, hg, _, _, hc, _⟩
  · exact absurd rfl hl
  · obtain rfl := in_blk' hk
    cases l with
    | nil => exact absurd rfl hl
    | cons x t =>
      have hlen : 0 < (E.all (x :: t)).length := by rw [E.length_all, List.length_cons, Nat.add_mul]; have := E.pos; omega
      exact cells_of_cell (hc 0 _ (List.getElem?_eq_getElem hlen))
where in_blk' {b o n c k : Nat} (h : In (.slice (some ⟨b, o, none⟩) n c) k) : b = k := by injection h
theorem vec_kept {A B : World} {row : Option Nat} (hg : A.grownBy B row) (hr : ∀ r, row = some r → ∃ o : Obj, A.heap[r]? = some o ∧ o.isCells = false) {v : Value} {l : List α} (h : Vec E A v l) : Vec E B v l := by
  rcases h with h | ⟨g, off, cap, rfl, hl, hn, hm, hc, hsp⟩
  · exact .inl h
  · refine .inr ⟨g, off, cap, rfl, Nat.lt_of_lt_of_le hl hg.size, hn, hm, fun j x hj => cell_kept (hc j x hj) hg hr, fun j hj => ?_⟩
    obtain ⟨h1, h2⟩ := hsp j hj
    obtain ⟨u, hu⟩ := Option.isSome_iff_exists.1 h1
    exact ⟨by rw [cell_kept hu hg hr]; rfl, (frozen_kept hu hg hr).trans h2⟩
theorem vec_own {β : Type} (v : Value) (f : β → List α) : Own (fun s W => Vec E W v (f s)) := fun s X Y row hs hg hr => vec_kept hg hr hs
theorem size_own {β : Type} (n : Nat) : Own (fun (_ : β) W => n ≤ W.heap.size) := fun s X Y row hs hg hr => Nat.le_trans hs hg.size
theorem pure_own {β : Type} (φ : β → Prop) : Own (fun s (_ : World) => φ s) := fun s X Y row hs _ _ => hs
theorem own_and {β : Type} {I I' : β → World → Prop} (h : Own I) (h' : Own I') : Own (fun s W => I s W ∧ I' s W) := fun s X Y row hs hg hr => ⟨h s X Y row hs.1 hg hr, h' s X Y row hs.2 hg hr⟩
theorem own_ex {β γ : Type} {I : γ → β → World → Prop} (h : ∀ y, Own (I y)) : Own (fun s W => ∃ y, I y s W) := fun s X Y row ⟨y, hs⟩ hg hr => ⟨y, h y s X Y row hs hg hr⟩
theorem cells_own {A B : World} {row : Option Nat} (hg : A.grownBy B row) (hr : ∀ r, row = some r → ∃ o : Obj, A.heap[r]? = some o ∧ o.isCells = false) {b : Nat} {t : TypeId} {cs : Array Value} (hb : Blk A b t cs) : Blk B b t cs :=
  (grownBy_keeps_cells hg hr hb rfl).trans hb
theorem blk_own {β : Type} (b : Nat) (t : TypeId) (f : β → Array Value) : Own (fun s W => Blk W b t (f s)) := fun s X Y row hs hg hr => cells_own hg hr hs
theorem Blk.putObj {w : World} {b : Nat} {t : TypeId} {cs : Array Value} (h : Blk w b t cs) {l : Nat} {x : Obj} (y : Obj) (hl : w.heap[l]? = some x) (hx : x.isCells = false) : Blk (w.putObj l y) b t cs :=
  cells_own (grownBy_putObj' w l y) (fun r e => by cases e; exact ⟨x, hl, hx⟩) h
theorem Vec.putObj {w : World} {v : Value} {l : List α} (h : Vec E w v l) {k : Nat} {x : Obj} (y : Obj) (hl : w.heap[k]? = some x) (hx : x.isCells = false) : Vec E (w.putObj k y) v l :=
  vec_kept (grownBy_putObj' w k y) (fun r e => by cases e; exact ⟨x, hl, hx⟩) h
/-- What was written lies in cells: whatever is no cells lies as it lay. -/
theorem Upd.othersOf {S : Nat → Prop} {w w' : World} (h : Upd S w w') (hS : ∀ k, S k → ∃ o : Obj, w.heap[k]? = some o ∧ o.isCells = true) : KeepsOthers w w' :=
  ⟨h.size, fun k o hk ho => (h.block k (Array.getElem?_eq_some_iff.1 hk).1 (fun e => by
    obtain ⟨o', h1, h2⟩ := hS k e
    rw [h1] at hk; cases hk; rw [h2] at ho; cases ho)).trans hk⟩
end Go.Proofs.YtomepdgddpajoaaDoor
/- What the contracts of layer 7's landed code need beside: a list's rows, two lists' places. Over whatever program (in layer 7 itself these stand in RefL2). -/
namespace Go.Proofs.YtomepdgddpajoaaDoor
open Go.RowKit ListMath
set_option linter.unusedVariables false
theorem allN_row {s : LS} (hn : 0 ≤ s.n) : allN s = match chainN s.L s.h s.n with
    | some r => if r.length = s.n.toNat then some r else none
    | none => none := by
  unfold allN chainN; rw [if_neg (by omega)]
  cases rowF s.L (min s.n.toNat s.L.length) s.h <;> rfl
/-- Two lists' places don't meet. -/
def Aside (lp o op o2 : Nat) : Prop := lp ≠ op ∨ o + 2 ≤ o2 ∨ o2 + 2 ≤ o
theorem Aside.at {lp o op o2 : Nat} (h : Aside lp o op o2) : ¬ LPl lp o op o2 ∧ ¬ LPl lp o op (o2 + 1) ∧ ¬ LPl op o2 lp o ∧ ¬ LPl op o2 lp (o + 1) := by
  unfold Aside at h; unfold LPl
  refine ⟨?_, ?_, ?_, ?_⟩ <;> (rintro ⟨e, x⟩; omega)
theorem wrt_head {w : World} {lp o : Nat} (u : Value) : Wrt (fun _ => False) (LPl lp o) w (w.setCell ⟨lp, o, none⟩ u) := (Wrt.refl _ _ w).setCell ⟨rfl, Or.inl rfl⟩ u
theorem wrt_count {w : World} {lp o : Nat} (u : Value) : Wrt (fun _ => False) (LPl lp o) w (w.setCell ⟨lp, o + 1, none⟩ u) := (Wrt.refl _ _ w).setCell ⟨rfl, Or.inr rfl⟩ u
theorem upd_set {w : World} {lp i : Nat} (u : Value) : Upd (fun b => b = lp) w (w.setCell ⟨lp, i, none⟩ u) := (Upd.refl (fun b => b = lp) w).setCell (.inl rfl) u
/-- What joining leaves. -/
def joinD (L : List Nat) (lh oh : Nat) (ln on : Int) : LS × LS := (joinN L lh ln oh on).getD (⟨L, lh, ln⟩, ⟨L, oh, on⟩)
theorem joinN_none {L : List Nat} {lh oh : Nat} {ln on : Int} (h : allN ⟨L, oh, on⟩ = none) : joinN L lh ln oh on = none := by unfold joinN; rw [h]
theorem joinN_nil {L : List Nat} {lh oh : Nat} {ln on : Int} (h : allN ⟨L, oh, on⟩ = some []) : joinN L lh ln oh on = some (⟨L, lh, ln⟩, ⟨L, 0, 0⟩) := by unfold joinN; rw [h]
theorem joinN_cons {L : List Nat} {lh oh : Nat} {ln on : Int} {r : List Nat} (h : allN ⟨L, oh, on⟩ = some r) (hr : r ≠ []) : joinN L lh ln oh on = some (⟨MemMath.put8 L (lastD r) lh, oh, ln + on⟩, ⟨MemMath.put8 L (lastD r) lh, 0, 0⟩) := by
  unfold joinN; rw [h]
  cases r with
  | nil => exact absurd rfl hr
  | cons a t => rfl
theorem allN_last {s : LS} {r : List Nat} (h : allN s = some r) (hn : 0 ≤ s.n) (hr : r ≠ []) : ∃ c z, r.length = c + 1 ∧ r[c]? = some z ∧ lastD r = z ∧ z + 8 ≤ s.L.length ∧ s.n = (r.length : Int) := by
  have h1 := allN_row hn
  rw [h] at h1
  cases hc : chainN s.L s.h s.n with
  | none => rw [hc] at h1; cases h1
  | some q =>
    rw [hc] at h1
    simp only [] at h1
    split at h1
    · rename_i hq
      injection h1 with h1
      subst h1
      have hch := (chain_rowF hc).1
      rcases List.eq_nil_or_concat r with e | ⟨t, z, e⟩
      · exact absurd e hr
      · rw [List.concat_eq_append] at e
        have hz : r[t.length]? = some z := by rw [e]; simp
        refine ⟨t.length, z, by rw [e]; simp, hz, by rw [e]; unfold lastD; simp, ?_, by omega⟩
        have h2 := hch.drop t.length z hz
        obtain ⟨hl, ez⟩ := List.getElem?_eq_some_iff.1 hz
        rw [List.drop_eq_getElem_cons hl] at h2
        obtain ⟨x, _, y, _⟩ := h2
        rw [x]; exact y
    · cases h1
end Go.Proofs.YtomepdgddpajoaaDoor
/- What the laws of layer 7 need of the program's lists (to be proved of the code that landed); one list in a memory, in a law. -/
namespace Go.Proofs.YtomepdgddpajoaaDoor
open Go.RowKit ListMath
set_option linter.unusedVariables false

def lsC (h : Nat) (n : Int) : Array Value := #[.int .u64 (h : Int), .int .i64 n]
/-- A list's count that may grow. -/
abbrev CntB (n : Int) : Prop := 0 ≤ n ∧ n ≤ 1000000000
/-- One list in a memory, both a law's own. -/
structure One (w : World) (p g lp : Nat) (s : LS) (w' : World) : Prop where
  mem : IsMem w' p g s.L
  lst : Blk w' lp 118 (lsC s.h s.n)
  fp : w.heap.size ≤ p
  fg : w.heap.size ≤ g
  fl : w.heap.size ≤ lp
  below : Below w.heap.size w w'
theorem One.turn {w w' w2 : World} {p g lp : Nat} {s t : LS} {S : Nat → Prop} (h : One w p g lp s w') (hm : IsMem w2 p g t.L) (hl : Blk w2 lp 118 (lsC t.h t.n)) (u : Upd S w' w2) (hS : ∀ b, S b → b = g ∨ b = lp) : One w p g lp t w2 :=
  ⟨hm, hl, h.fp, h.fg, h.fl, h.below.trans (u.below (fun b hb => by rcases hS b hb with rfl | rfl; exact h.fg; exact h.fl) h.below.size)⟩
theorem One.grew {w w' w2 : World} {p g lp : Nat} {s : LS} (h : One w p g lp s w') (hb : Below w'.heap.size w' w2) : One w p g lp s w2 :=
  ⟨h.mem.upd (updFalse_of hb) id id, h.lst.grew hb, h.fp, h.fg, h.fl, below_then h.below h.below.size hb⟩
theorem One.alloc {w w' : World} {p g lp : Nat} {s : LS} (h : One w p g lp s w') (o : Obj) : One w p g lp s (w'.alloc o) := h.grew ((Below.refl _ w').alloc (Nat.le_refl _) o)
theorem IsMem.pnl {w : World} {p g lp : Nat} {L : List Nat} {c : Array Value} (h : IsMem w p g L) (hl : Blk w lp 118 c) : lp ≠ p ∧ lp ≠ g :=
  ⟨(Blk.ne h.head hl (by decide)).symm, (Blk.ne h.row hl (by decide)).symm⟩
end Go.Proofs.YtomepdgddpajoaaDoor
/- What the laws of layer 7 need of the program's lists, at any place of any block (to be proved of the code that landed); a list in a block of its own is one of them. -/
namespace Go.Proofs.YtomepdgddpajoaaDoor
open Go.RowKit ListMath
set_option linter.unusedVariables false

/-- A memory, and a list somewhere. -/
structure PL (w : World) (p g lp o : Nat) (s : LS) : Prop where
  mem : IsMem w p g s.L
  lst : LCell w lp o s.h s.n
  np : lp ≠ p
  ng : lp ≠ g
def joinG (L : List Nat) (lh oh : Nat) (ln on : Int) : LS × LS := (joinN L lh ln oh on).getD (⟨L, lh, ln⟩, ⟨L, oh, on⟩)
/-- Two lists' places don't meet. -/
def Apart2 (lp o op o2 : Nat) : Prop := lp ≠ op ∨ o + 2 ≤ o2 ∨ o2 + 2 ≤ o
theorem blk_one {w : World} {b : Nat} {t t' : TypeId} {cs cs' : Array Value} (h : Blk w b t cs) (k : Blk w b t' cs') : cs = cs' := by
  unfold Blk at h k; rw [h] at k; injection k with k; injection k
theorem lsC_of {S : Nat → Prop} {C : Nat → Nat → Prop} {w w' : World} {lp h h' : Nat} {n n' : Int} {t : TypeId} (b : Blk w lp t (lsC h n)) (W : Wrt S C w w') (hs : ¬ S lp) (l : LCell w' lp 0 h' n') : Blk w' lp t (lsC h' n') := by
  obtain ⟨cs', b', hsz, _⟩ := W.blk lp hs t _ b
  obtain ⟨t1, cs1, b1, e1, e2⟩ := l
  have := blk_one b1 b'
  subst this
  have hcs : cs1 = lsC h' n' := by
    apply Array.ext_getElem?
    intro i
    rcases Nat.lt_or_ge i 2 with hi | hi
    · have : i = 0 ∨ i = 1 := by omega
      rcases this with rfl | rfl
      · exact e1
      · exact e2
    · rw [Array.getElem?_eq_none (by rw [hsz]; exact hi), Array.getElem?_eq_none (by exact hi)]
  rw [← hcs]; exact b'
theorem cell_lsC {w : World} {lp h : Nat} {n : Int} {t : TypeId} (b : Blk w lp t (lsC h n)) : LCell w lp 0 h n := ⟨t, _, b, rfl, rfl⟩
end Go.Proofs.YtomepdgddpajoaaDoor
/- Lists (layer 7): the landed iterator over what hangs on a block: its contract. -/
namespace Go.Proofs.YtomepdgddpajoaaDoor
open Go.RowKit Go.Shelf ListMath
set_option linter.unusedVariables false
attribute [local go_sem] Oper.semAt_some

/-- Blocks that lie as they lay. -/
def Keeps (K : Nat → Prop) (W W' : World) : Prop := ∀ k, K k → W'.heap[k]? = W.heap[k]?
theorem Keeps.refl (K : Nat → Prop) (W : World) : Keeps K W W := fun _ _ => rfl
theorem keeps_t {K : Nat → Prop} {A B C : World} (h : Keeps K A B) (k : Keeps K B C) : Keeps K A C := fun i hi => (k i hi).trans (h i hi)
theorem keeps_b {K : Nat → Prop} {w : World} (hn : ∀ k, K k → k < w.heap.size) (W : World) (l : Nat) (o o' : Obj) (hl : w.heap.size ≤ l) (h : W.heap[l]? = some o) (_ : o.isCells = false) (_ : o.isWalk = false) : Keeps K W (W.putObj l o') :=
  fun k hk => (grownBy_putObj' W l o').block k (by have := hn k hk; have := (Array.getElem?_eq_some_iff.1 h).1; omega) (by have := hn k hk; intro e; injection e; omega)
theorem Keeps.setCell {K : Nat → Prop} {W W' : World} (h : Keeps K W W') {a : Addr} (ha : ¬ K a.block) (v : Value) : Keeps K W (W'.setCell a v) :=
  keeps_t h fun k hk => Below.heap_setCell _ _ _ _ (fun e => ha (e ▸ hk))
theorem keeps_drew (K : Nat → Prop) (W : World) : Keeps K W W.drew := fun _ _ => rfl
theorem Keeps.upd {K S : Nat → Prop} {W W' W2 : World} (h : Keeps K W W') (u : Upd S W' W2) (hk : ∀ k, K k → k < W'.heap.size ∧ ¬ S k) : Keeps K W W2 :=
  keeps_t h fun k hK => u.block k (hk k hK).1 (hk k hK).2
theorem Keeps.cell {K : Nat → Prop} {W W' : World} (h : Keeps K W W') {a : Addr} (ha : K a.block) : W'.cell? a = W.cell? a := World.cell?_of_block (h _ ha)

def K3 (p g b : Nat) (k : Nat) : Prop := k = p ∨ k = g ∨ k = b
theorem IsMem.kept {W W' : World} {p g b : Nat} {L : List Nat} (h : IsMem W p g L) (k : Keeps (K3 p g b) W W') : IsMem W' p g L :=
  ⟨(k p (.inl rfl)).trans h.head, (k g (.inr (.inl rfl))).trans h.row, h.byt, h.big⟩
/-- A block's address, and its link. -/
abbrev Lnk : Type := { x : Nat × Nat // x.1 ≤ 1048576 ∧ x.2 ≤ 18446744073709551615 }
abbrev lnkVals (x : Lnk) : Array Value := #[.int .u64 (x.1.1 : Int), .int .u64 (x.1.2 : Int)]
def AllCome (L : List Nat) (Z h0 : Nat) (xs : List Lnk) : Prop := xs.map (·.1) = walkF L Z h0
/-- How many may come at most. -/
def mostF (L : List Nat) (m : Int) : Nat := min m.toNat L.length

def ItRel (L : List Nat) (Z h0 p g b : Nat) (J : List Lnk → World → Prop) (W : World) (x i : Value) (wr : World) : Prop :=
  ∃ (pre : List Lnk) (k a : Nat), k ≤ Z ∧ pre.length = k ∧ a ≤ 18446744073709551615 ∧ x = .int .u64 (a : Int) ∧ i = .int .i64 (k : Int) ∧ pre.map (·.1) ++ walkF L (Z - k) a = walkF L Z h0 ∧ J pre wr ∧ Keeps (K3 p g b) W wr

theorem linkAt_le' {L : List Nat} (h : MemMath.Byt L) {a : Nat} (h8 : a + 8 ≤ L.length) : linkAt L a ≤ 18446744073709551615 := by
  have := MemMath.val_lt (h.part a 8)
  rw [MemMath.length_part h8] at this
  unfold linkAt; omega
theorem grownBy_drew (w : World) : w.grownBy w.drew none := ⟨rfl, rfl, rfl, Nat.le_refl _, fun _ _ _ => rfl⟩
theorem load8 {w : World} {p g : Nat} {L : List Nat} (h : IsMem w p g L) {a : Nat} (h8 : a + 8 ≤ L.length) : Calls Tryd.prog 83 #[.pointer (some ⟨p, 0, none⟩), .int .u64 (a : Int), .int .i64 8] w fun e w' => e = .returned (.tuple #[.int .u64 (linkAt L a : Int), .int .i64 0]) ∧ w = w' := load_ok h a 8 (.inr (.inr (.inr rfl))) h8
theorem load8_out {w : World} {p g : Nat} {L : List Nat} (h : IsMem w p g L) {a : Nat} (h8 : ¬ a + 8 ≤ L.length) : Calls Tryd.prog 83 #[.pointer (some ⟨p, 0, none⟩), .int .u64 (a : Int), .int .i64 8] w fun e w' => e = .returned (.tuple #[.int .u64 0, .int .i64 3]) ∧ w = w' := load_out h a 8 (.inr (.inr (.inr rfl))) (by omega)

end Go.Proofs.YtomepdgddpajoaaDoor
/- Lists (layer 7): the landed Chain, right, last: contracts. -/
namespace Go.Proofs.YtomepdgddpajoaaDoor
open Go.RowKit Go.Shelf ListMath
set_option linter.unusedVariables false
attribute [local go_sem] Oper.semAt_some

theorem box3 (w : World) (c0 c1 c2 : Array Value) (t0 t1 t2 : TypeId) : ∃ W, ((w.alloc (.cells c0 t0)).alloc (.cells c1 t1)).alloc (.cells c2 t2) = W ∧ Blk W w.heap.size t0 c0 ∧ Blk W (w.heap.size + 1) t1 c1 ∧ Blk W (w.heap.size + 1 + 1) t2 c2 ∧ W.heap.size = w.heap.size + 1 + 1 + 1 ∧ Below w.heap.size w W := by
  refine ⟨_, rfl, ((Blk.new w _ _).alloc _).alloc _, ?_, ?_, by simp, (((Below.refl _ w).alloc (Nat.le_refl _) _).alloc (by simp) _).alloc (by simp; omega) _⟩
  · have := (Blk.new (w.alloc (.cells c0 t0)) t1 c1).alloc (.cells c2 t2)
    rwa [World.size_alloc] at this
  · have := Blk.new ((w.alloc (.cells c0 t0)).alloc (.cells c1 t1)) t2 c2
    rwa [World.size_alloc, World.size_alloc] at this
/-- What was handed on, as pairs. -/
def prs (pre : List Lnk) : List (Nat × Nat) := pre.map (·.1)
theorem prs_snoc (pre : List Lnk) (x : Lnk) : prs (pre ++ [x]) = prs pre ++ [x.1] := by unfold prs; rw [List.map_append]; rfl
theorem chain_come {L : List Nat} {m : Int} {h : Nat} {xs : List Lnk} (e : AllCome L (mostF L m) h xs) : chainN L h m = if endF h (prs xs) = 0 then some ((prs xs).map (·.1)) else none := by
  have := rowF_walk L (mostF L m) h
  rw [← e] at this
  exact this
def u64C (x : Nat) : Array Value := #[.int .u64 (x : Int)]
def ChIs (w : World) (h : Nat) (pre : List Lnk) (W : World) : Prop :=
  (Blk W w.heap.size 118 (lsC 0 0) ∧ Blk W (w.heap.size + 1) 118 (lsC h (pre.length : Int)) ∧ Blk W (w.heap.size + 1 + 1) 28 (u64C (endF h (prs pre)))) ∧ Below w.heap.size w W
theorem chIs_own {w : World} {B : Nat} (hB : w.heap.size ≤ B) (h : Nat) : OwnFrom B (ChIs w h) :=
  OwnFrom.and (Own.from (own_and (blk_own _ _ _) (own_and (blk_own _ _ _) (blk_own _ _ _))) _) (ownFrom_below (Nat.le_refl _) hB)

end Go.Proofs.YtomepdgddpajoaaDoor
/- Lists (layer 7): the landed last: its contract. -/
namespace Go.Proofs.YtomepdgddpajoaaDoor
open Go.RowKit Go.Shelf ListMath
set_option linter.unusedVariables false
attribute [local go_sem] Oper.semAt_some

/-- The iterator's three boxes, made behind w. -/
structure Boxes (w : World) (p h : Nat) (m : Int) (w' : World) : Prop where
  b0 : Blk w' w.heap.size 24 #[.pointer (some ⟨p, 0, none⟩)]
  b1 : Blk w' (w.heap.size + 1) 28 #[.int .u64 (h : Int)]
  b2 : Blk w' (w.heap.size + 1 + 1) 3 #[.int .i64 m]
  size : w'.heap.size = w.heap.size + 1 + 1 + 1
  below : Below w.heap.size w w'
/-- The last block's address that was handed on. -/
def lastP (l : List (Nat × Nat)) : Nat := lastD (l.map (·.1))
theorem lastP_snoc (l : List (Nat × Nat)) (x : Nat × Nat) : lastP (l ++ [x]) = x.1 := by unfold lastP lastD; simp
def LsIs (w : World) (pre : List Lnk) (W : World) : Prop := Blk W w.heap.size 28 (u64C (lastP (prs pre))) ∧ Below w.heap.size w W
theorem lsIs_own {w : World} {B : Nat} (hB : w.heap.size ≤ B) : OwnFrom B (LsIs w) := OwnFrom.and (Own.from (blk_own _ _ _) _) (ownFrom_below (Nat.le_refl _) hB)

end Go.Proofs.YtomepdgddpajoaaDoor
/- Lists (layer 7): the landed right: its contract. -/
namespace Go.Proofs.YtomepdgddpajoaaDoor
open Go.RowKit ListMath
set_option linter.unusedVariables false

end Go.Proofs.YtomepdgddpajoaaDoor
/- Lists (layer 7): the landed All: its contract. -/
namespace Go.Proofs.YtomepdgddpajoaaDoor
open Go.RowKit Go.Shelf ListMath
set_option linter.unusedVariables false
attribute [local go_sem] Oper.semAt_some

def adr (pre : List Lnk) : List Nat := (prs pre).map (·.1)
theorem adr_snoc (pre : List Lnk) (x : Lnk) : adr (pre ++ [x]) = adr pre ++ [x.1.1] := by unfold adr; rw [prs_snoc, List.map_append]; rfl
theorem adr_len (pre : List Lnk) : (adr pre).length = pre.length := by simp [adr, prs]
def AlIs (w : World) (b6 nb : Nat) (pre : List Lnk) (W : World) : Prop :=
  (∃ v : Value, Blk W b6 82 #[v] ∧ Vec Elem.u64s W v (adr pre) ∧ ((∀ k, In v k → nb ≤ k) ∧ (adr pre = [] → ∀ k, ¬ In v k)) ∧ nb ≤ W.heap.size) ∧ Below w.heap.size w W
theorem alIs_own {w : World} {B : Nat} (hB : w.heap.size ≤ B) (b6 nb : Nat) : OwnFrom B (AlIs w b6 nb) :=
  OwnFrom.and (Own.from (own_ex fun v => own_and (blk_own _ _ _) (own_and (vec_own _ _) (own_and (pure_own (fun pre : List Lnk => (∀ k, In v k → nb ≤ k) ∧ (adr pre = [] → ∀ k, ¬ In v k))) (size_own _)))) _) (ownFrom_below (Nat.le_refl _) hB)
theorem all_some {L : List Nat} {h : Nat} {n : Int} {r : List Nat} (hn : 0 ≤ n) (e : allN ⟨L, h, n⟩ = some r) : r = (walkF L (mostF L n) h).map (·.1) := by
  have h1 := allN_row (s := ⟨L, h, n⟩) hn
  rw [e] at h1
  have h2 := rowF_walk L (mostF L n) h
  change chainN L h n = _ at h2
  simp only [] at h1
  rw [h2] at h1
  split at h1
  · rename_i r' hr'
    split at hr'
    · injection hr' with hr'
      split at h1
      · injection h1 with h1; rw [h1, hr']
      · cases h1
    · cases hr'
  · cases h1
end Go.Proofs.YtomepdgddpajoaaDoor
/- Lists (layer 7): the landed Push, Pop: contracts. -/
namespace Go.Proofs.YtomepdgddpajoaaDoor
open Go.RowKit ListMath
set_option linter.unusedVariables false

theorem load8' {w : World} {p g : Nat} {L : List Nat} (h : IsMem w p g L) (a : Nat) :
    (a + 8 ≤ L.length → Calls Tryd.prog 83 #[.pointer (some ⟨p, 0, none⟩), .int .u64 (a : Int), .int .i64 8] w fun e w' => e = .returned (.tuple #[.int .u64 (linkAt L a : Int), .int .i64 0]) ∧ w = w') ∧
    (¬ a + 8 ≤ L.length → Calls Tryd.prog 83 #[.pointer (some ⟨p, 0, none⟩), .int .u64 (a : Int), .int .i64 8] w fun e w' => e = .returned (.tuple #[.int .u64 0, .int .i64 3]) ∧ w = w') := ⟨fun h8 => load8 h h8, fun h8 => load8_out h h8⟩
def PushP (w : World) (p g lp o k : Nat) (s : LS) (l : List Nat) (i : Value) (wr : World) : Prop :=
  ∃ j : Nat, j ≤ k ∧ i = .int .i64 (j : Int) ∧ (pushN s (l.take j)).2 = 0 ∧ PL wr p g lp o (pushN s (l.take j)).1 ∧ Wrt (fun b => b = g) (LPl lp o) w wr
set_option maxHeartbeats 2000000 in
theorem push_any (w : World) {p g lp o : Nat} {s : LS} (R : PL w p g lp o s) {a : Option Addr} {k cap : Nat} {l : List Nat} (hq : Seq Elem.u64s w (.slice a k cap) l) (hne : 0 < k → ∀ b, In (.slice a k cap) b → b ≠ g ∧ b ≠ lp) (hx : ∀ x ∈ l, x ≤ 18446744073709551615) (hk : k ≤ 100000) (hh : s.h ≤ 18446744073709551615) (hn : 0 ≤ s.n ∧ s.n ≤ 1000000000) :
    Calls Tryd.prog 70 #[.pointer (some ⟨lp, o, none⟩), .pointer (some ⟨p, 0, none⟩), .slice a k cap] w fun e w' => e = .returned (.int .i64 (pushN s l).2) ∧ PL w' p g lp o (pushN s l).1 ∧ Wrt (fun b => b = g) (LPl lp o) w w' := by
  have hlen := hq.len
  have Q := Lib.hid hq; have NE := Lib.hid hne; have HX := Lib.hid hx; have HK := Lib.hid hlen
  have R0 := Lib.hid R
  obtain ⟨E, hE⟩ : ∃ E, pushN s l = E := ⟨_, rfl⟩
  rw [hE]
  have HE := Lib.hid hE
  clear hq hne hx hlen R hE
  go_enter Tryd.func70, Tryd.ntmps70
  go_wp2
  go_loopw [18] (fun i wr => PushP w p g lp o k s l i wr) (fun i _ => k - (intOf i).toNat)
  case atStart => exact ⟨0, Nat.zero_le _, rfl, rfl, R0.out, Wrt.refl _ _ _⟩
  case round =>
    obtain ⟨j, hj, rfl, hz, hr, hw⟩ := hrel
    by_cases hjk : j < k
    · obtain ⟨x, hx⟩ : ∃ x, l[j]? = some x := ⟨l[j]'(by rw [← HK.out]; exact hjk), List.getElem?_eq_getElem _⟩
      have hxb := HX.out x (List.mem_of_getElem? hx)
      have hjn := pushN_n (l.take j) s
      have hjl : (l.take j).length = j := by rw [List.length_take, ← HK.out]; omega
      rw [hjl] at hjn
      have hnext := pushN_take hx hz
      have hhalt := pushN_halt hx hz
      have hb2 := fun b (hb : In (.slice a k cap) b) => hw.upd.block b
      have hcellsAt : ∃ b off, a = some ⟨b, off, none⟩ ∧ wr.cell? ⟨b, off + j, none⟩ = some (.int .u64 (x : Int)) := by
        obtain ⟨b, off, rfl, hc⟩ := Q.out.elem hx
        have h0 := hc 0 (.int .u64 (x : Int)) rfl
        simp only [Elem.u64s, Nat.add_zero, Nat.mul_one] at h0
        have hlt := World.block_lt_of_cell? w _ h0
        have hn := NE.out (by omega) b rfl
        refine ⟨b, off, rfl, (World.cell?_of_block (a := ⟨b, off + j, none⟩) (hw.upd.block b hlt ?_)).trans h0⟩
        rintro (e | ⟨i, e, _⟩)
        · exact hn.1 e
        · exact hn.2 e
      obtain ⟨b, off, rfl, d0⟩ := hcellsAt
      obtain ⟨⟨Lj, hd, n⟩, hS⟩ : ∃ S, (pushN s (l.take j)).1 = S := ⟨_, rfl⟩
      rw [hS] at hr hnext hhalt hjn
      have hhd : hd ≤ 18446744073709551615 := by
        have := pushN_h (l.take j) s hh (fun x hx => HX.out x (List.mem_of_mem_take hx))
        rw [hS] at this; exact this
      simp only [] at hjn
      have c0 : wr.cell? ⟨lp, o, none⟩ = some (.int .u64 (hd : Int)) := hr.lst.c0
      have f0 : wr.frozen? ⟨lp, o, none⟩ = false := hr.lst.frozen _
      have ST := Lib.hid (store8 wr hr.mem x hd hxb hhd)
      have t1 : decide ((j : Int) < (k : Int)) = true := decide_eq_true (by omega)
      have t1' : decide (j < k) = true := decide_eq_true hjk
      have j0 : (0 : Int) ≤ (j : Int) := by omega
      have j1 : (j : Int) < (k : Int) := by omega
      have RR := Lib.hid hr; have WW := Lib.hid hw; have HNX := Lib.hid hnext; have HHL := Lib.hid hhalt
      obtain ⟨hj1, hj2, hj3⟩ := hjn
      have HJ3 := Lib.hid hj3
      clear hr hw hnext hhalt hx hz hS hjl hb2 hj3
      by_cases hx0 : x = 0
      · subst hx0
        have hp : push1 ⟨Lj, hd, n⟩ 0 = (⟨Lj, hd, n⟩, 2) := by unfold push1; rw [if_pos rfl]
        have hE : E = (⟨Lj, hd, n⟩, 2) := by rw [← HE.out, HHL.out (by rw [hp]; show (2 : Int) ≠ 0; decide), hp]
        subst hE
        have t2 : (((0 : Nat) : Int) == 0) = true := by decide
        clear hp ST
        go_wp2
        go_ret
        exact ⟨rfl, RR.out, WW.out⟩
      · have t2 : ((x : Int) == 0) = false := by rw [beq_eq_false_iff_ne]; omega
        by_cases h8 : x + 8 ≤ Lj.length
        · rw [if_pos h8, if_pos h8] at ST
          have hp : push1 ⟨Lj, hd, n⟩ x = (⟨MemMath.put8 Lj x hd, x, n + 1⟩, 0) := by unfold push1; rw [if_neg hx0, if_pos h8]
          rw [hp] at HNX
          clear hp hx0 h8
          go_wp2_with fail
          refine ST.out.mono ?_; rintro e w6 ⟨rfl, hr6, hu6⟩
          have R6 := Lib.hid hr6
          have l6 := RR.out.lst.upd hu6 RR.out.ng
          have W6 := Lib.hid (WW.out.upd' hu6 (fun _ h => h))
          have L6 := Lib.hid l6
          clear c0 f0
          have c0 : w6.cell? ⟨lp, o, none⟩ = some (.int .u64 (hd : Int)) := l6.c0
          have f0 : w6.frozen? ⟨lp, o, none⟩ = false := l6.frozen _
          have c1 : w6.cell? ⟨lp, o + 1, none⟩ = some (.int .i64 n) := l6.c1
          have f1 : w6.frozen? ⟨lp, o + 1, none⟩ = false := l6.frozen _
          clear hr6 hu6 l6
          go_wp2
          go_roundw
          case rel =>
            refine ⟨j + 1, by omega, by go_num, by rw [HNX.out], ?_, (W6.out.setCell ⟨rfl, Or.inl rfl⟩ _).setCell ⟨rfl, Or.inr rfl⟩ _⟩
            rw [HNX.out]
            have hl := (L6.out.head x).count (n + 1)
            refine ⟨(R6.out.upd ((Upd.refl (fun b => b = lp) w6).setCell (.inl rfl) _) (fun e => RR.out.np e.symm) (fun e => RR.out.ng e.symm)).upd ((Upd.refl (fun b => b = lp) _).setCell (.inl rfl) _) (fun e => RR.out.np e.symm) (fun e => RR.out.ng e.symm), hl, RR.out.np, RR.out.ng⟩
          case measure => simp [intOf]; omega
        · rw [if_neg h8, if_neg h8] at ST
          have hp : push1 ⟨Lj, hd, n⟩ x = (⟨Lj, hd, n⟩, 3) := by unfold push1; rw [if_neg hx0, if_neg h8]
          have hE : E = (⟨Lj, hd, n⟩, 3) := by rw [← HE.out, HHL.out (by rw [hp]; show (3 : Int) ≠ 0; decide), hp]
          subst hE
          clear hp hx0 h8
          go_wp2_with fail
          refine ST.out.mono ?_; rintro e w6 ⟨rfl, hr6, hu6⟩
          have R6 := Lib.hid hr6
          have L6 := Lib.hid (RR.out.lst.upd hu6 RR.out.ng)
          have W6 := Lib.hid (WW.out.upd' hu6 (fun _ h => h))
          clear hr6 hu6
          go_wp2
          go_ret
          exact ⟨rfl, ⟨R6.out, L6.out, RR.out.np, RR.out.ng⟩, W6.out⟩
    · obtain rfl : j = k := by omega
      have t1 : decide ((j : Int) < (j : Int)) = false := decide_eq_false (by omega)
      have htk : l.take j = l := by rw [HK.out, List.take_length]
      rw [htk, HE.out] at hz hr
      have RR := Lib.hid hr; have WW := Lib.hid hw
      have HZ := Lib.hid hz
      clear hr hw htk hz
      go_wp2
      go_ret
      rw [HZ.out]
      exact ⟨rfl, RR.out, WW.out⟩
set_option maxHeartbeats 1000000 in
theorem pop_any (w : World) {p g lp o : Nat} {s : LS} (R : PL w p g lp o s) (hh : s.h ≤ 18446744073709551615) (hn : 0 ≤ s.n ∧ s.n ≤ 1000000000) :
    Calls Tryd.prog 55 #[.pointer (some ⟨lp, o, none⟩), .pointer (some ⟨p, 0, none⟩)] w fun e w' => e = .returned (.tuple #[.int .u64 ((popN s).2.1 : Int), .int .i64 (popN s).2.2]) ∧ PL w' p g lp o (popN s).1 ∧ Wrt (fun _ => False) (LPl lp o) w w' := by
  obtain ⟨L, hd, n⟩ := s
  simp only [] at hh hn
  obtain ⟨n0, n1⟩ := hn
  have c0 : w.cell? ⟨lp, o, none⟩ = some (.int .u64 (hd : Int)) := R.lst.c0
  have f0 : w.frozen? ⟨lp, o, none⟩ = false := R.lst.frozen _
  have c1 : w.cell? ⟨lp, o + 1, none⟩ = some (.int .i64 n) := R.lst.c1
  have f1 : w.frozen? ⟨lp, o + 1, none⟩ = false := R.lst.frozen _
  have HL := load8' R.mem hd
  have RR := Lib.hid R
  simp only [] at HL
  clear R
  by_cases hz : n = 0
  · subst hz
    have e : popN ⟨L, hd, 0⟩ = (⟨L, hd, 0⟩, 0, 5) := by unfold popN; rw [if_pos rfl]
    rw [e]
    clear e HL
    go_enter Tryd.func55, Tryd.ntmps55
    go_wp2
    go_ret2
    exact ⟨rfl, RR.out, Wrt.refl _ _ _⟩
  · have t1 : ((n : Int) == 0) = false := by rw [beq_eq_false_iff_ne]; exact hz
    by_cases h8 : hd + 8 ≤ L.length
    · have e : popN ⟨L, hd, n⟩ = (⟨L, linkAt L hd, n - 1⟩, hd, 0) := by unfold popN; rw [if_neg hz, if_pos h8]
      rw [e]
      have HC := Lib.hid (HL.1 h8)
      obtain ⟨k, hk⟩ : ∃ k, linkAt L hd = k := ⟨_, rfl⟩
      rw [hk] at HC ⊢
      clear e HL h8 hk hz
      go_enter Tryd.func55, Tryd.ntmps55
      go_wp2_with (go_at_call 83; refine HC.out.mono ?_; rintro e w1 ⟨rfl, rfl⟩)
      go_ret2
      have hl := (RR.out.lst.head k).count (n - 1)
      exact ⟨rfl, ⟨(RR.out.mem.upd ((Upd.refl (fun b => b = lp) w).setCell (.inl rfl) _) (fun e => RR.out.np e.symm) (fun e => RR.out.ng e.symm)).upd ((Upd.refl (fun b => b = lp) _).setCell (.inl rfl) _) (fun e => RR.out.np e.symm) (fun e => RR.out.ng e.symm), hl, RR.out.np, RR.out.ng⟩, ((Wrt.refl _ _ w).setCell ⟨rfl, Or.inl rfl⟩ _).setCell ⟨rfl, Or.inr rfl⟩ _⟩
    · have e : popN ⟨L, hd, n⟩ = (⟨L, hd, n⟩, 0, 3) := by unfold popN; rw [if_neg hz, if_neg h8]
      rw [e]
      have HC := Lib.hid (HL.2 h8)
      clear e HL h8 hz
      go_enter Tryd.func55, Tryd.ntmps55
      go_wp2_with (go_at_call 83; refine HC.out.mono ?_; rintro e w1 ⟨rfl, rfl⟩)
      go_ret2
      exact ⟨rfl, RR.out, Wrt.refl _ _ _⟩
end Go.Proofs.YtomepdgddpajoaaDoor
/- Lists (layer 7): the landed Join: its contract. -/
namespace Go.Proofs.YtomepdgddpajoaaDoor
open Go.RowKit ListMath
set_option linter.unusedVariables false

theorem infoList : (Tryd.prog.info? 118).map (·.size) = some 2 := by kernel_rfl
theorem ptr_other {w : World} {lp o op o2 : Nat} {lh oh : Nat} {ln on : Int} (l : LCell w lp o lh ln) (k : LCell w op o2 oh on) (hne : ¬ (op = lp ∧ o2 = o)) :
    (binOp .eql 148 (.pointer (some ⟨op, o2, none⟩)) (.pointer (some ⟨lp, o, none⟩))).run Tryd.prog w = .ok (.bool false) w := by
  obtain ⟨t, cs, b, _⟩ := l
  obtain ⟨t2, cs2, b2, _⟩ := k
  have hi := infoList
  cases hj : Tryd.prog.info? 118 with
  | none => rw [hj] at hi; cases hi
  | some j =>
    rw [hj] at hi
    refine run_eql_ptr_other w Tryd.underlying148 hj (by simp at hi; omega) (fun e => hne ?_) b2 b
    injection e with e1 e2 _
    exact ⟨e1, e2⟩
theorem ptr_same (w : World) (lp o : Nat) : (binOp .eql 148 (.pointer (some ⟨lp, o, none⟩)) (.pointer (some ⟨lp, o, none⟩))).run Tryd.prog w = .ok (.bool true) w := by
  have hi := infoList
  cases hj : Tryd.prog.info? 118 with
  | none => rw [hj] at hi; cases hi
  | some j => exact run_eql_ptr_same w _ Tryd.underlying148 hj
theorem below_upd {S : Nat → Prop} {w w' : World} (h : Below w.heap.size w w') : Upd S w w' := (updFalse_of h).mono fun _ x => x.elim
set_option maxHeartbeats 1000000 in
theorem push_nil (w : World) (p : Nat) : Calls Tryd.prog 70 #[.pointer none, .pointer (some ⟨p, 0, none⟩), .slice none 0 0] w fun e w' => e = .returned (.int .i64 1) ∧ Below w.heap.size w w' := by
  go_enter Tryd.func70, Tryd.ntmps70
  go_wp2
  go_ret
  exact ⟨rfl, Below.refl _ _⟩
end Go.Proofs.YtomepdgddpajoaaDoor
