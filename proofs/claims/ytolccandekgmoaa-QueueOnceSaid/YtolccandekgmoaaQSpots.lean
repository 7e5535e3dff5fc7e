/- Rows of spots, linked both ways: in memory; a row's cut and add. -/
import Derived.Test.YtolccandekgmoaaQueueCl
import Derived.Deep.RegionHeld3
import Derived.LaidEqlPtr
namespace Go.Proofs.Ytolccandekgmoaa
open Go.RowKit QueueMath
set_option linter.unusedVariables false

abbrev Sp := Int × Nat
/-- Where a row begins, where it ends. -/
def fstP : List Sp → Option Addr → Option Addr
  | [], d => d
  | e :: _, _ => some ⟨e.2, 0, none⟩
def lstP : List Sp → Option Addr → Option Addr
  | [], d => d
  | e :: t, _ => lstP t (some ⟨e.2, 0, none⟩)
abbrev spotC (x : Int) (ra : Addr) (p n : Option Addr) : Array Value := #[.int .i64 x, .pointer (some ra), .pointer p, .pointer n]
/-- Spots one behind the other, the first behind p, the last ahead of n. -/
def SegP (w : World) (ra : Addr) : Option Addr → List Sp → Option Addr → Prop
  | _, [], _ => True
  | p, e :: t, n => Blk w e.2 60 (spotC e.1 ra p (fstP t n)) ∧ SegP w ra (some ⟨e.2, 0, none⟩) t n
section
variable {w w' : World} {ra : Addr} {p n d : Option Addr} {a b l : List Sp} {e : Sp}
theorem fstP_app : fstP (a ++ b) d = fstP a (fstP b d) := by cases a <;> rfl
theorem lstP_app : lstP (a ++ b) d = lstP b (lstP a d) := by
  induction a generalizing d with
  | nil => rfl
  | cons x t ih => exact ih
theorem segP_app : SegP w ra p (a ++ b) n ↔ SegP w ra p a (fstP b n) ∧ SegP w ra (lstP a p) b n := by
  induction a generalizing p with
  | nil => exact ⟨fun h => ⟨trivial, h⟩, fun h => h.2⟩
  | cons x t ih =>
    show (Blk w x.2 _ (spotC x.1 ra p (fstP (t ++ b) n)) ∧ SegP w ra (some ⟨x.2, 0, none⟩) (t ++ b) n) ↔ (Blk w x.2 _ (spotC x.1 ra p (fstP t (fstP b n))) ∧ SegP w ra (some ⟨x.2, 0, none⟩) t (fstP b n)) ∧ SegP w ra (lstP t (some ⟨x.2, 0, none⟩)) b n
    rw [ih, fstP_app]
    exact ⟨fun h => ⟨⟨h.1, h.2.1⟩, h.2.2⟩, fun h => ⟨h.1.1, h.1.2, h.2⟩⟩
theorem segP_last {x : Int} {k : Nat} : SegP w ra p (a ++ [(x, k)]) n ↔ SegP w ra p a (some ⟨k, 0, none⟩) ∧ Blk w k 60 (spotC x ra (lstP a p) n) := by
  rw [segP_app]
  exact ⟨fun h => ⟨h.1, h.2.1⟩, fun h => ⟨h.1, h.2, trivial⟩⟩
theorem segP_mid {x : Int} {k : Nat} : SegP w ra p (a ++ (x, k) :: b) n ↔ SegP w ra p a (some ⟨k, 0, none⟩) ∧ Blk w k 60 (spotC x ra (lstP a p) (fstP b n)) ∧ SegP w ra (some ⟨k, 0, none⟩) b n := by
  rw [segP_app]; exact Iff.rfl
theorem SegP.upd {S : Nat → Prop} (h : SegP w ra p l n) (u : Upd S w w') (hs : ∀ e ∈ l, ¬ S e.2) : SegP w' ra p l n := by
  induction l generalizing p with
  | nil => trivial
  | cons x t ih => exact ⟨h.1.upd u (hs x (List.mem_cons_self ..)), ih h.2 fun e he => hs e (List.mem_cons_of_mem _ he)⟩
theorem SegP.grew (h : SegP w ra p l n) (hb : Below w.heap.size w w') : SegP w' ra p l n := h.upd (updFalse_of hb) fun _ _ => id
theorem SegP.far (h : SegP w ra p l n) {c : Addr} (hc : ∀ e ∈ l, e.2 ≠ c.block) (u : Value) : SegP (w.setCell c u) ra p l n := by
  induction l generalizing p with
  | nil => trivial
  | cons x t ih => exact ⟨h.1.far (hc x (List.mem_cons_self ..)) u, ih h.2 fun e he => hc e (List.mem_cons_of_mem _ he)⟩
theorem SegP.drew (h : SegP w ra p l n) : SegP w.drew ra p l n := h.upd ((Upd.refl (fun _ => False) w).drew) fun _ _ => id
theorem SegP.at (h : SegP w ra p l n) (he : e ∈ l) : ∃ p' n', Blk w e.2 60 (spotC e.1 ra p' n') := by
  induction l generalizing p with
  | nil => cases he
  | cons x t ih =>
    rcases List.mem_cons.1 he with rfl | he
    · exact ⟨_, _, h.1⟩
    · exact ih h.2 he
/-- The last one's next is written. -/
theorem SegP.next {y : Int} {j : Nat} (h : SegP w ra p (a ++ [(y, j)]) n) (hj : ∀ e ∈ a, e.2 ≠ j) (n' : Option Addr) : SegP (w.setCell ⟨j, 3, none⟩ (.pointer n')) ra p (a ++ [(y, j)]) n' := by
  rw [segP_last] at h ⊢
  exact ⟨h.1.far hj _, by have := h.2.put 3 (.pointer n'); simpa [spotC] using this⟩
/-- The first one's prev is written. -/
theorem SegP.prev {z : Int} {m : Nat} (h : SegP w ra p ((z, m) :: b) n) (hm : ∀ e ∈ b, e.2 ≠ m) (p' : Option Addr) : SegP (w.setCell ⟨m, 2, none⟩ (.pointer p')) ra p' ((z, m) :: b) n :=
  ⟨by have := h.1.put 2 (.pointer p'); simpa [spotC] using this, h.2.far hm _⟩
theorem SegP.set (h : SegP w ra p l n) {S : Nat → Prop} (u : Upd S w w') (hs : ∀ e ∈ l, ¬ S e.2) : SegP w' ra p l n := h.upd u hs
end
/-- A row's two cells in a block, and its spots. -/
def RowNow (w : World) (rb o : Nat) (t : TypeId) (cs : Array Value) (l : List Sp) : Prop :=
  ∃ cs', Blk w rb t cs' ∧ cs'.size = cs.size ∧ cs'[o]? = some (.pointer (fstP l none)) ∧ cs'[o + 1]? = some (.pointer (lstP l none)) ∧ (∀ i, i ≠ o → i ≠ o + 1 → cs'[i]? = cs[i]?) ∧ SegP w ⟨rb, o, none⟩ none l none
section
variable {w : World} {rb o : Nat} {t : TypeId} {cs : Array Value} {l : List Sp}
theorem row_put {i : Nat} {u : Value} (hb : Blk w rb t cs) : Blk (w.setCell ⟨rb, i, none⟩ u) rb t (cs.setIfInBounds i u) := hb.put i u
theorem set_same {i : Nat} {u : Value} {v : Value} (h : cs[i]? = some v) : (cs.setIfInBounds i u)[i]? = some u := by
  obtain ⟨x, _⟩ := Array.getElem?_eq_some_iff.1 h
  exact Array.getElem?_setIfInBounds_self_of_lt x
theorem set_other {i j : Nat} {u : Value} (h : j ≠ i) : (cs.setIfInBounds i u)[j]? = cs[j]? := by rw [Array.getElem?_setIfInBounds, if_neg (fun e => h e.symm)]
end
abbrev blks (l : List Sp) : List Nat := l.map fun e => e.2
def BlkOf (rb : Nat) (l : List Sp) (c : Nat) : Prop := c = rb ∨ ∃ e ∈ l, c = e.2
section
variable {w : World} {rb o : Nat} {t : TypeId} {cs : Array Value}
set_option maxRecDepth 100000 in
set_option maxHeartbeats 1000000 in
/-- A spot alone in its row is cut. -/
theorem cut_one {x : Int} {k : Nat} (hb : Blk w rb t cs) (c0 : cs[o]? = some (.pointer (some ⟨k, 0, none⟩))) (c1 : cs[o + 1]? = some (.pointer (some ⟨k, 0, none⟩)))
    (sg : SegP w ⟨rb, o, none⟩ none [(x, k)] none) (hk : k ≠ rb) :
    Calls Try.prog 34 #[.pointer (some ⟨rb, o, none⟩), .pointer (some ⟨k, 0, none⟩)] w fun e w' => e = .returned (.tuple #[]) ∧ (RowNow w' rb o t cs [] ∧ ∃ p n, Blk w' k 60 (spotC x ⟨rb, o, none⟩ p n)) ∧ Upd (BlkOf rb []) w w' := by
  obtain ⟨bk, -⟩ := sg
  have k2 : w.cell? ⟨k, 2, none⟩ = some (.pointer none) := bk.cell 2
  have k3 : w.cell? ⟨k, 3, none⟩ = some (.pointer none) := bk.cell 3
  have r0 : w.cell? ⟨rb, o, none⟩ = some (.pointer (some ⟨k, 0, none⟩)) := by rw [hb.cell]; exact c0
  have r1 : w.cell? ⟨rb, o + 1, none⟩ = some (.pointer (some ⟨k, 0, none⟩)) := by rw [hb.cell]; exact c1
  have f0 : w.frozen? ⟨rb, o, none⟩ = false := hb.frozen o
  have f1 : w.frozen? ⟨rb, o + 1, none⟩ = false := hb.frozen (o + 1)
  have HB := Lib.hid hb; have BK := Lib.hid bk; have C0 := Lib.hid c0; have C1 := Lib.hid c1; have HK := Lib.hid hk
  have hk' : rb ≠ k := fun h => hk h.symm
  clear hb bk c0 c1
  go_enter Try.func34, Try.ntmps34
  go_wp2
  refine bodyPost_end (results_none rfl _ _ _) rfl ?_
  have b1 := (HB.out.put o (.pointer none)).put (o + 1) (.pointer none)
  refine ⟨rfl, ⟨⟨_, b1, by simp, ?_, ?_, fun i h0 h1 => ?_, trivial⟩, none, none, (BK.out.far (p := ⟨rb, o, none⟩) HK.out _).far (p := ⟨rb, o + 1, none⟩) HK.out _⟩, ((Upd.refl _ w).setCell (p := ⟨rb, o, none⟩) (.inl (.inl rfl)) _).setCell (p := ⟨rb, o + 1, none⟩) (.inl (.inl rfl)) _⟩
  · rw [set_other (by omega)]; exact set_same C0.out
  · exact set_same ((set_other (by omega)).trans C1.out)
  · rw [set_other h1, set_other h0]
set_option maxRecDepth 100000 in
set_option maxHeartbeats 1000000 in
/-- The first of several is cut. -/
theorem cut_first {x z : Int} {k m : Nat} {l : List Sp} (hb : Blk w rb t cs) (c0 : cs[o]? = some (.pointer (some ⟨k, 0, none⟩))) {v : Value} (c1 : cs[o + 1]? = some (.pointer (lstP ((z, m) :: l) none)))
    (sg : SegP w ⟨rb, o, none⟩ none ((x, k) :: (z, m) :: l) none) (hk : k ≠ rb) (hm : m ≠ rb) (hkm : k ≠ m) (hl : ∀ e ∈ l, e.2 ≠ rb ∧ e.2 ≠ m) :
    Calls Try.prog 34 #[.pointer (some ⟨rb, o, none⟩), .pointer (some ⟨k, 0, none⟩)] w fun e w' => e = .returned (.tuple #[]) ∧ (RowNow w' rb o t cs ((z, m) :: l) ∧ ∃ p n, Blk w' k 60 (spotC x ⟨rb, o, none⟩ p n)) ∧ Upd (BlkOf rb ((z, m) :: l)) w w' := by
  obtain ⟨bk, sg⟩ := sg
  have k2 : w.cell? ⟨k, 2, none⟩ = some (.pointer none) := bk.cell 2
  have k3 : w.cell? ⟨k, 3, none⟩ = some (.pointer (some ⟨m, 0, none⟩)) := bk.cell 3
  have m2 : w.cell? ⟨m, 2, none⟩ = some (.pointer (some ⟨k, 0, none⟩)) := sg.1.cell 2
  have r0 : w.cell? ⟨rb, o, none⟩ = some (.pointer (some ⟨k, 0, none⟩)) := by rw [hb.cell]; exact c0
  have f0 : w.frozen? ⟨rb, o, none⟩ = false := hb.frozen o
  have g2 : w.frozen? ⟨m, 2, none⟩ = false := sg.1.frozen 2
  have HB := Lib.hid hb; have BK := Lib.hid bk; have SG := Lib.hid sg; have C0 := Lib.hid c0; have C1 := Lib.hid c1; have HK := Lib.hid hk; have HM := Lib.hid hm; have HKM := Lib.hid hkm; have HL := Lib.hid hl
  have hk' : rb ≠ k := fun h => hk h.symm
  have hm' : rb ≠ m := fun h => hm h.symm
  have hkm' : m ≠ k := fun h => hkm h.symm
  clear hb bk sg c0 c1 hl
  go_enter Try.func34, Try.ntmps34
  go_wp2
  go_region_held3 (fun w' => w'.cell? ⟨k, 2, none⟩ = some (.pointer none) ∧ w'.cell? ⟨k, 3, none⟩ = some (.pointer (some ⟨m, 0, none⟩))) (first | go_keep | exact ⟨k2, k3⟩) (fail)
  go_wp2
  refine bodyPost_end (results_none rfl _ _ _) rfl ?_
  have b1 := (HB.out.put o (.pointer (some ⟨m, 0, none⟩))).far (p := ⟨m, 2, none⟩) (fun e => HM.out e.symm) (.pointer none)
  have s1 := (SG.out.far (c := ⟨rb, o, none⟩) (fun e he => by
    rcases List.mem_cons.1 he with rfl | he
    · exact HM.out
    · exact (HL.out e he).1) (.pointer (some ⟨m, 0, none⟩))).prev (fun e he => (HL.out e he).2) none
  refine ⟨rfl, ⟨⟨_, b1, by simp, ?_, ?_, fun i h0 h1 => ?_, s1.drew⟩, none, some ⟨m, 0, none⟩, (BK.out.far (p := ⟨rb, o, none⟩) HK.out _).far (p := ⟨m, 2, none⟩) HKM.out _⟩, (((Upd.refl _ w).setCell (p := ⟨rb, o, none⟩) (.inl (.inl rfl)) _).setCell (p := ⟨m, 2, none⟩) (.inl (.inr ⟨_, List.mem_cons_self .., rfl⟩)) _).drew⟩
  · exact set_same C0.out
  · rw [set_other (by omega)]; exact C1.out
  · rw [set_other h0]
set_option maxRecDepth 100000 in
set_option maxHeartbeats 1000000 in
/-- The last of several is cut. -/
theorem cut_last {x y : Int} {k j : Nat} {l : List Sp} (hb : Blk w rb t cs) (c0 : cs[o]? = some (.pointer (fstP (l ++ [(y, j)]) none))) (c1 : cs[o + 1]? = some (.pointer (some ⟨k, 0, none⟩)))
    (sg : SegP w ⟨rb, o, none⟩ none (l ++ [(y, j)]) (some ⟨k, 0, none⟩)) (bk : Blk w k 60 (spotC x ⟨rb, o, none⟩ (some ⟨j, 0, none⟩) none)) (hk : k ≠ rb) (hj : j ≠ rb) (hkj : k ≠ j) (hl : ∀ e ∈ l, e.2 ≠ rb ∧ e.2 ≠ j) :
    Calls Try.prog 34 #[.pointer (some ⟨rb, o, none⟩), .pointer (some ⟨k, 0, none⟩)] w fun e w' => e = .returned (.tuple #[]) ∧ (RowNow w' rb o t cs (l ++ [(y, j)]) ∧ ∃ p n, Blk w' k 60 (spotC x ⟨rb, o, none⟩ p n)) ∧ Upd (BlkOf rb (l ++ [(y, j)])) w w' := by
  have bj := (segP_last.1 sg).2
  have k2 : w.cell? ⟨k, 2, none⟩ = some (.pointer (some ⟨j, 0, none⟩)) := bk.cell 2
  have k3 : w.cell? ⟨k, 3, none⟩ = some (.pointer none) := bk.cell 3
  have j3 : w.cell? ⟨j, 3, none⟩ = some (.pointer (some ⟨k, 0, none⟩)) := bj.cell 3
  have r1 : w.cell? ⟨rb, o + 1, none⟩ = some (.pointer (some ⟨k, 0, none⟩)) := by rw [hb.cell]; exact c1
  have f1 : w.frozen? ⟨rb, o + 1, none⟩ = false := hb.frozen (o + 1)
  have g3 : w.frozen? ⟨j, 3, none⟩ = false := bj.frozen 3
  have HB := Lib.hid hb; have BK := Lib.hid bk; have SG := Lib.hid sg; have C0 := Lib.hid c0; have C1 := Lib.hid c1; have HK := Lib.hid hk; have HJ := Lib.hid hj; have HKJ := Lib.hid hkj; have HL := Lib.hid hl
  have hk' : rb ≠ k := fun h => hk h.symm
  have hj' : rb ≠ j := fun h => hj h.symm
  have hkj' : j ≠ k := fun h => hkj h.symm
  clear hb bk bj sg c0 c1 hl
  go_enter Try.func34, Try.ntmps34
  go_wp2
  go_region_held3 (fun w' => w'.cell? ⟨k, 2, none⟩ = some (.pointer (some ⟨j, 0, none⟩)) ∧ w'.cell? ⟨k, 3, none⟩ = some (.pointer none)) (first | go_keep | exact ⟨k2, k3⟩) (fail)
  go_wp2
  refine bodyPost_end (results_none rfl _ _ _) rfl ?_
  have b1 := (HB.out.far (p := ⟨j, 3, none⟩) (fun e => HJ.out e.symm) (.pointer none)).put (o + 1) (.pointer (some ⟨j, 0, none⟩))
  have s1 := (SG.out.next (fun e he => (HL.out e he).2) none).far (c := ⟨rb, o + 1, none⟩) (fun e he => by
    rcases List.mem_append.1 he with he | he
    · exact (HL.out e he).1
    · rw [List.mem_singleton.1 he]; exact HJ.out) (.pointer (some ⟨j, 0, none⟩))
  refine ⟨rfl, ⟨⟨_, b1, by simp, ?_, ?_, fun i h0 h1 => ?_, s1.drew⟩, some ⟨j, 0, none⟩, none, (BK.out.far (p := ⟨j, 3, none⟩) HKJ.out _).far (p := ⟨rb, o + 1, none⟩) HK.out _⟩, ((Upd.refl _ w).setCell (p := ⟨j, 3, none⟩) (.inl (.inr ⟨(y, j), by simp, rfl⟩)) _).drew.setCell (p := ⟨rb, o + 1, none⟩) (.inl (.inl rfl)) _⟩
  · rw [set_other (by omega)]; exact C0.out
  · rw [lstP_app]; exact set_same C1.out
  · rw [set_other h1]
set_option maxRecDepth 100000 in
set_option maxHeartbeats 1000000 in
/-- One between two others is cut. -/
theorem cut_mid {x y z : Int} {k j m : Nat} {l r : List Sp} (hb : Blk w rb t cs) (c0 : cs[o]? = some (.pointer (fstP (l ++ [(y, j)]) none))) (c1 : cs[o + 1]? = some (.pointer (lstP ((z, m) :: r) none)))
    (sg : SegP w ⟨rb, o, none⟩ none (l ++ [(y, j)]) (some ⟨k, 0, none⟩)) (bk : Blk w k 60 (spotC x ⟨rb, o, none⟩ (some ⟨j, 0, none⟩) (some ⟨m, 0, none⟩))) (sr : SegP w ⟨rb, o, none⟩ (some ⟨k, 0, none⟩) ((z, m) :: r) none)
    (hk : k ≠ rb) (hj : j ≠ rb) (hm : m ≠ rb) (hkj : k ≠ j) (hkm : k ≠ m) (hjm : j ≠ m) (hl : ∀ e ∈ l, e.2 ≠ rb ∧ e.2 ≠ j ∧ e.2 ≠ m) (hr : ∀ e ∈ r, e.2 ≠ rb ∧ e.2 ≠ j ∧ e.2 ≠ m) :
    Calls Try.prog 34 #[.pointer (some ⟨rb, o, none⟩), .pointer (some ⟨k, 0, none⟩)] w fun e w' => e = .returned (.tuple #[]) ∧ (RowNow w' rb o t cs (l ++ [(y, j)] ++ (z, m) :: r) ∧ ∃ p n, Blk w' k 60 (spotC x ⟨rb, o, none⟩ p n)) ∧ Upd (BlkOf rb (l ++ [(y, j)] ++ (z, m) :: r)) w w' := by
  have bj := (segP_last.1 sg).2
  have k2 : w.cell? ⟨k, 2, none⟩ = some (.pointer (some ⟨j, 0, none⟩)) := bk.cell 2
  have k3 : w.cell? ⟨k, 3, none⟩ = some (.pointer (some ⟨m, 0, none⟩)) := bk.cell 3
  have j3 : w.cell? ⟨j, 3, none⟩ = some (.pointer (some ⟨k, 0, none⟩)) := bj.cell 3
  have m2 : w.cell? ⟨m, 2, none⟩ = some (.pointer (some ⟨k, 0, none⟩)) := sr.1.cell 2
  have g2 : w.frozen? ⟨m, 2, none⟩ = false := sr.1.frozen 2
  have g3 : w.frozen? ⟨j, 3, none⟩ = false := bj.frozen 3
  have HB := Lib.hid hb; have BK := Lib.hid bk; have SG := Lib.hid sg; have SR := Lib.hid sr; have C0 := Lib.hid c0; have C1 := Lib.hid c1; have HK := Lib.hid hk; have HJ := Lib.hid hj; have HM := Lib.hid hm; have HKJ := Lib.hid hkj; have HKM := Lib.hid hkm; have HJM := Lib.hid hjm; have HL := Lib.hid hl; have HR := Lib.hid hr
  have hkj' : j ≠ k := fun h => hkj h.symm
  have hkm' : m ≠ k := fun h => hkm h.symm
  have hjm' : m ≠ j := fun h => hjm h.symm
  clear hb bk bj sg sr c0 c1 hl hr hk hj hm
  go_enter Try.func34, Try.ntmps34
  go_wp2
  go_region_held3 (fun w' => w'.cell? ⟨k, 2, none⟩ = some (.pointer (some ⟨j, 0, none⟩)) ∧ w'.cell? ⟨k, 3, none⟩ = some (.pointer (some ⟨m, 0, none⟩))) (first | go_keep | exact ⟨k2, k3⟩) (fail)
  go_wp2
  go_region_held3 (fun w' => w'.cell? ⟨k, 2, none⟩ = some (.pointer (some ⟨j, 0, none⟩)) ∧ w'.cell? ⟨k, 3, none⟩ = some (.pointer (some ⟨m, 0, none⟩))) (first | go_keep | exact ⟨k2, k3⟩) (fail)
  go_wp2
  refine bodyPost_end (results_none rfl _ _ _) rfl ?_
  have b1 := (HB.out.far (p := ⟨j, 3, none⟩) (fun e => HJ.out e.symm) (.pointer (some ⟨m, 0, none⟩))).far (p := ⟨m, 2, none⟩) (fun e => HM.out e.symm) (.pointer (some ⟨j, 0, none⟩))
  have s1 := (SG.out.next (fun e he => (HL.out e he).2.1) (some ⟨m, 0, none⟩)).far (c := ⟨m, 2, none⟩) (fun e he => by
    rcases List.mem_append.1 he with he | he
    · exact (HL.out e he).2.2
    · rw [List.mem_singleton.1 he]; exact HJM.out) (.pointer (some ⟨j, 0, none⟩))
  have s2 := (SR.out.far (c := ⟨j, 3, none⟩) (fun e he => by
    rcases List.mem_cons.1 he with rfl | he
    · exact fun e => HJM.out e.symm
    · exact (HR.out e he).2.1) (.pointer (some ⟨m, 0, none⟩))).prev (fun e he => (HR.out e he).2.2) (some ⟨j, 0, none⟩)
  refine ⟨rfl, ⟨⟨_, b1, rfl, ?_, ?_, fun i h0 h1 => rfl, segP_app.2 ⟨s1.drew.drew, by rw [lstP_app]; exact s2.drew.drew⟩⟩, some ⟨j, 0, none⟩, some ⟨m, 0, none⟩, (BK.out.far (p := ⟨j, 3, none⟩) HKJ.out _).far (p := ⟨m, 2, none⟩) HKM.out _⟩, (((Upd.refl _ w).setCell (p := ⟨j, 3, none⟩) (.inl (.inr ⟨(y, j), by simp, rfl⟩)) _).drew.setCell (p := ⟨m, 2, none⟩) (.inl (.inr ⟨(z, m), by simp, rfl⟩)) _).drew⟩
  · rw [C0.out, fstP_app]
    cases l <;> rfl
  · rw [C1.out, lstP_app]; rfl
/-- A spot of a row is cut. -/
theorem cut_any {x : Int} {k : Nat} {a b : List Sp} (hb : Blk w rb t cs) (c0 : cs[o]? = some (.pointer (fstP (a ++ (x, k) :: b) none))) (c1 : cs[o + 1]? = some (.pointer (lstP (a ++ (x, k) :: b) none)))
    (sg : SegP w ⟨rb, o, none⟩ none (a ++ (x, k) :: b) none) (nd : (blks (a ++ (x, k) :: b)).Nodup) (hr : ∀ e ∈ a ++ (x, k) :: b, e.2 ≠ rb) :
    Calls Try.prog 34 #[.pointer (some ⟨rb, o, none⟩), .pointer (some ⟨k, 0, none⟩)] w fun e w' => e = .returned (.tuple #[]) ∧ (RowNow w' rb o t cs (a ++ b) ∧ ∃ p n, Blk w' k 60 (spotC x ⟨rb, o, none⟩ p n)) ∧ Upd (BlkOf rb (a ++ b)) w w' := by
  have hk : k ≠ rb := hr (x, k) (by simp)
  have nd' := nd
  rw [blks, List.map_append, List.map_cons, List.nodup_append, List.nodup_cons] at nd'
  obtain ⟨n1, ⟨n2, n3⟩, n4⟩ := nd'
  have hka : ∀ e ∈ a, e.2 ≠ k := fun e he h => n4 e.2 (List.mem_map.2 ⟨e, he, rfl⟩) k (List.mem_cons_self ..) h
  have hkb : ∀ e ∈ b, e.2 ≠ k := fun e he h => n2 (by rw [← h]; exact List.mem_map.2 ⟨e, he, rfl⟩)
  have hab : ∀ e ∈ a, ∀ f ∈ b, e.2 ≠ f.2 := fun e he f hf h => n4 e.2 (List.mem_map.2 ⟨e, he, rfl⟩) f.2 (List.mem_cons_of_mem _ (List.mem_map.2 ⟨f, hf, rfl⟩)) h
  rw [segP_mid] at sg
  obtain ⟨s1, bk, s2⟩ := sg
  rw [fstP_app] at c0
  rw [lstP_app] at c1
  rcases List.eq_nil_or_concat a with rfl | ⟨a', ⟨y, j⟩, rfl⟩
  · cases b with
    | nil => exact cut_one hb c0 c1 ⟨bk, trivial⟩ hk
    | cons f b' =>
      obtain ⟨z, m⟩ := f
      rw [List.map_cons, List.nodup_cons] at n3
      refine cut_first hb c0 (v := .pointer none) c1 ⟨bk, s2⟩ hk (hr (z, m) (by simp)) (fun e => hkb (z, m) (by simp) e.symm) fun e he => ⟨hr e (by simp [he]), fun h => n3.1 (List.mem_map.2 ⟨e, he, h⟩)⟩
  · rw [List.concat_eq_append] at *
    rw [List.map_append, List.nodup_append] at n1
    have hj : ∀ e ∈ a', e.2 ≠ j := fun e he h => n1.2.2 e.2 (List.mem_map.2 ⟨e, he, rfl⟩) j (by simp) h
    rw [lstP_app] at bk
    have c0' : cs[o]? = some (.pointer (fstP (a' ++ [(y, j)]) none)) := by rw [c0]; cases a' <;> rfl
    cases b with
    | nil =>
      have h := cut_last hb c0' c1 s1 bk hk (hr (y, j) (by simp)) (fun e => hka (y, j) (by simp) e.symm) fun e he => ⟨hr e (by simp [he]), hj e he⟩
      rw [List.append_nil]
      exact h
    | cons f b' =>
      obtain ⟨z, m⟩ := f
      rw [List.map_cons, List.nodup_cons] at n3
      exact cut_mid hb c0' c1 s1 bk s2 hk (hr (y, j) (by simp)) (hr (z, m) (by simp)) (fun e => hka (y, j) (by simp) e.symm) (fun e => hkb (z, m) (by simp) e.symm) (hab (y, j) (by simp) (z, m) (by simp))
        (fun e he => ⟨hr e (by simp [he]), hj e he, hab e (by simp [he]) (z, m) (by simp)⟩)
        (fun e he => ⟨hr e (by simp [he]), fun h => hab (y, j) (by simp) e (by simp [he]) h.symm, fun h => n3.1 (List.mem_map.2 ⟨e, he, h⟩)⟩)
set_option maxRecDepth 100000 in
set_option maxHeartbeats 1000000 in
/-- A spot of no row comes to stand last: of an empty row. -/
theorem add_one {x : Int} {k : Nat} {q p n : Option Addr} (hb : Blk w rb t cs) (c0 : cs[o]? = some (.pointer none)) (c1 : cs[o + 1]? = some (.pointer none))
    (bk : Blk w k 60 #[.int .i64 x, .pointer q, .pointer p, .pointer n]) (hk : k ≠ rb) :
    Calls Try.prog 35 #[.pointer (some ⟨rb, o, none⟩), .pointer (some ⟨k, 0, none⟩)] w fun e w' => e = .returned (.tuple #[]) ∧ RowNow w' rb o t cs [(x, k)] ∧ Upd (fun c => c = rb ∨ c = k) w w' := by
  have k1 : w.cell? ⟨k, 1, none⟩ = some (.pointer q) := bk.cell 1
  have k2 : w.cell? ⟨k, 2, none⟩ = some (.pointer p) := bk.cell 2
  have k3 : w.cell? ⟨k, 3, none⟩ = some (.pointer n) := bk.cell 3
  have g1 : w.frozen? ⟨k, 1, none⟩ = false := bk.frozen 1
  have g2 : w.frozen? ⟨k, 2, none⟩ = false := bk.frozen 2
  have g3 : w.frozen? ⟨k, 3, none⟩ = false := bk.frozen 3
  have r0 : w.cell? ⟨rb, o, none⟩ = some (.pointer none) := by rw [hb.cell]; exact c0
  have r1 : w.cell? ⟨rb, o + 1, none⟩ = some (.pointer none) := by rw [hb.cell]; exact c1
  have f0 : w.frozen? ⟨rb, o, none⟩ = false := hb.frozen o
  have f1 : w.frozen? ⟨rb, o + 1, none⟩ = false := hb.frozen (o + 1)
  have HB := Lib.hid hb; have BK := Lib.hid bk; have C0 := Lib.hid c0; have C1 := Lib.hid c1; have HK := Lib.hid hk
  have hk' : rb ≠ k := fun h => hk h.symm
  clear hb bk c0 c1
  go_enter Try.func35, Try.ntmps35
  go_wp2
  refine bodyPost_end (results_none rfl _ _ _) rfl ?_
  have b1 := ((((HB.out.far (p := ⟨k, 1, none⟩) hk' (.pointer (some ⟨rb, o, none⟩))).far (p := ⟨k, 2, none⟩) hk' (.pointer none)).far (p := ⟨k, 3, none⟩) hk' (.pointer none)).put o (.pointer (some ⟨k, 0, none⟩))).put (o + 1) (.pointer (some ⟨k, 0, none⟩))
  have b2 := ((((BK.out.put 1 (.pointer (some ⟨rb, o, none⟩))).put 2 (.pointer none)).put 3 (.pointer none)).far (p := ⟨rb, o, none⟩) HK.out (.pointer (some ⟨k, 0, none⟩))).far (p := ⟨rb, o + 1, none⟩) HK.out (.pointer (some ⟨k, 0, none⟩))
  have u1 := (((((Upd.refl (fun c => c = rb ∨ c = k) w).setCell (p := ⟨k, 1, none⟩) (.inl (.inr rfl)) (.pointer (some ⟨rb, o, none⟩))).setCell (p := ⟨k, 2, none⟩) (.inl (.inr rfl)) (.pointer none)).setCell (p := ⟨k, 3, none⟩) (.inl (.inr rfl)) (.pointer none)).setCell (p := ⟨rb, o, none⟩) (.inl (.inl rfl)) (.pointer (some ⟨k, 0, none⟩))).setCell (p := ⟨rb, o + 1, none⟩) (.inl (.inl rfl)) (.pointer (some ⟨k, 0, none⟩))
  refine ⟨rfl, ⟨_, b1, by simp, ?_, ?_, fun i h0 h1 => ?_, by simpa [spotC, fstP] using b2, trivial⟩, u1⟩
  · rw [set_other (by omega)]; exact set_same C0.out
  · exact set_same ((set_other (by omega)).trans C1.out)
  · rw [set_other h1, set_other h0]
set_option maxRecDepth 100000 in
set_option maxHeartbeats 1000000 in
/-- .. of a row of some. -/
theorem add_last {x y : Int} {k j : Nat} {l : List Sp} {q p n : Option Addr} (hb : Blk w rb t cs) (c0 : cs[o]? = some (.pointer (fstP (l ++ [(y, j)]) none))) (c1 : cs[o + 1]? = some (.pointer (some ⟨j, 0, none⟩)))
    (sg : SegP w ⟨rb, o, none⟩ none (l ++ [(y, j)]) none) (bk : Blk w k 60 #[.int .i64 x, .pointer q, .pointer p, .pointer n]) (hk : k ≠ rb) (hj : j ≠ rb) (hkj : k ≠ j) (hl : ∀ e ∈ l, e.2 ≠ rb ∧ e.2 ≠ j ∧ e.2 ≠ k) :
    Calls Try.prog 35 #[.pointer (some ⟨rb, o, none⟩), .pointer (some ⟨k, 0, none⟩)] w fun e w' => e = .returned (.tuple #[]) ∧ RowNow w' rb o t cs (l ++ [(y, j)] ++ [(x, k)]) ∧ Upd (fun c => BlkOf rb (l ++ [(y, j)]) c ∨ c = k) w w' := by
  have bj := (segP_last.1 sg).2
  have k1 : w.cell? ⟨k, 1, none⟩ = some (.pointer q) := bk.cell 1
  have k2 : w.cell? ⟨k, 2, none⟩ = some (.pointer p) := bk.cell 2
  have k3 : w.cell? ⟨k, 3, none⟩ = some (.pointer n) := bk.cell 3
  have g1 : w.frozen? ⟨k, 1, none⟩ = false := bk.frozen 1
  have g2 : w.frozen? ⟨k, 2, none⟩ = false := bk.frozen 2
  have g3 : w.frozen? ⟨k, 3, none⟩ = false := bk.frozen 3
  have j3 : w.cell? ⟨j, 3, none⟩ = some (.pointer none) := bj.cell 3
  have i3 : w.frozen? ⟨j, 3, none⟩ = false := bj.frozen 3
  have r1 : w.cell? ⟨rb, o + 1, none⟩ = some (.pointer (some ⟨j, 0, none⟩)) := by rw [hb.cell]; exact c1
  have f1 : w.frozen? ⟨rb, o + 1, none⟩ = false := hb.frozen (o + 1)
  have HB := Lib.hid hb; have BK := Lib.hid bk; have SG := Lib.hid sg; have C0 := Lib.hid c0; have C1 := Lib.hid c1; have HK := Lib.hid hk; have HJ := Lib.hid hj; have HKJ := Lib.hid hkj; have HL := Lib.hid hl
  have hk' : rb ≠ k := fun h => hk h.symm
  have hj' : rb ≠ j := fun h => hj h.symm
  have hkj' : j ≠ k := fun h => hkj h.symm
  clear hb bk bj sg c0 c1 hl
  go_enter Try.func35, Try.ntmps35
  go_wp2
  refine bodyPost_end (results_none rfl _ _ _) rfl ?_
  have b1 := ((((HB.out.far (p := ⟨k, 1, none⟩) hk' (.pointer (some ⟨rb, o, none⟩))).far (p := ⟨k, 2, none⟩) hk' (.pointer (some ⟨j, 0, none⟩))).far (p := ⟨k, 3, none⟩) hk' (.pointer none)).far (p := ⟨j, 3, none⟩) hj' (.pointer (some ⟨k, 0, none⟩))).put (o + 1) (.pointer (some ⟨k, 0, none⟩))
  have b2 := ((((BK.out.put 1 (.pointer (some ⟨rb, o, none⟩))).put 2 (.pointer (some ⟨j, 0, none⟩))).put 3 (.pointer none)).far (p := ⟨j, 3, none⟩) HKJ.out (.pointer (some ⟨k, 0, none⟩))).far (p := ⟨rb, o + 1, none⟩) HK.out (.pointer (some ⟨k, 0, none⟩))
  have hlk : ∀ e ∈ l ++ [(y, j)], e.2 ≠ k := fun e he => by
    rcases List.mem_append.1 he with he | he
    · exact (HL.out e he).2.2
    · rw [List.mem_singleton.1 he]; exact hkj'
  have hlr : ∀ e ∈ l ++ [(y, j)], e.2 ≠ rb := fun e he => by
    rcases List.mem_append.1 he with he | he
    · exact (HL.out e he).1
    · rw [List.mem_singleton.1 he]; exact HJ.out
  have s1 := ((((SG.out.far (c := ⟨k, 1, none⟩) hlk (.pointer (some ⟨rb, o, none⟩))).far (c := ⟨k, 2, none⟩) hlk (.pointer (some ⟨j, 0, none⟩))).far (c := ⟨k, 3, none⟩) hlk (.pointer none)).next (fun e he => (HL.out e he).2.1) (some ⟨k, 0, none⟩)).far (c := ⟨rb, o + 1, none⟩) hlr (.pointer (some ⟨k, 0, none⟩))
  have u1 := (((((Upd.refl (fun c => BlkOf rb (l ++ [(y, j)]) c ∨ c = k) w).setCell (p := ⟨k, 1, none⟩) (.inl (.inr rfl)) (.pointer (some ⟨rb, o, none⟩))).setCell (p := ⟨k, 2, none⟩) (.inl (.inr rfl)) (.pointer (some ⟨j, 0, none⟩))).setCell (p := ⟨k, 3, none⟩) (.inl (.inr rfl)) (.pointer none)).setCell (p := ⟨j, 3, none⟩) (.inl (.inl (.inr ⟨(y, j), by simp, rfl⟩))) (.pointer (some ⟨k, 0, none⟩))).setCell (p := ⟨rb, o + 1, none⟩) (.inl (.inl (.inl rfl))) (.pointer (some ⟨k, 0, none⟩))
  refine ⟨rfl, ⟨_, b1, by simp, ?_, ?_, fun i h0 h1 => ?_, segP_last.2 ⟨s1, ?_⟩⟩, u1⟩
  · rw [set_other (by omega), C0.out, fstP_app]
    cases l <;> rfl
  · rw [lstP_app]; exact set_same C1.out
  · rw [set_other h1]
  · rw [lstP_app]; simpa [spotC, lstP] using b2
theorem add_any {x : Int} {k : Nat} {l : List Sp} {q p n : Option Addr} (hb : Blk w rb t cs) (c0 : cs[o]? = some (.pointer (fstP l none))) (c1 : cs[o + 1]? = some (.pointer (lstP l none)))
    (sg : SegP w ⟨rb, o, none⟩ none l none) (bk : Blk w k 60 #[.int .i64 x, .pointer q, .pointer p, .pointer n]) (nd : (blks l).Nodup) (hk : k ≠ rb) (hl : ∀ e ∈ l, e.2 ≠ rb ∧ e.2 ≠ k) :
    Calls Try.prog 35 #[.pointer (some ⟨rb, o, none⟩), .pointer (some ⟨k, 0, none⟩)] w fun e w' => e = .returned (.tuple #[]) ∧ RowNow w' rb o t cs (l ++ [(x, k)]) ∧ Upd (fun c => BlkOf rb l c ∨ c = k) w w' := by
  rcases List.eq_nil_or_concat l with rfl | ⟨l', ⟨y, j⟩, rfl⟩
  · exact (add_one hb c0 c1 bk hk).mono fun e w' ⟨h1, h2, h3⟩ => ⟨h1, h2, h3.mono fun c hc => hc.imp .inl id⟩
  · rw [List.concat_eq_append] at *
    rw [lstP_app] at c1
    rw [blks, List.map_append, List.nodup_append] at nd
    exact add_last hb c0 c1 sg bk hk (hl (y, j) (by simp)).1 (fun e => (hl (y, j) (by simp)).2 e.symm) fun e he => ⟨(hl e (by simp [he])).1, fun h => nd.2.2 e.2 (List.mem_map.2 ⟨e, he, rfl⟩) j (by simp) h, (hl e (by simp [he])).2⟩
end
end Go.Proofs.Ytolccandekgmoaa
