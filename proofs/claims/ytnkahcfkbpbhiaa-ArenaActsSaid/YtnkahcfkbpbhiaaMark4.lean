/- Marks (layer 3): Take: its contract. -/
import Derived.Test.YtnkahcfkbpbhiaaRowIt
import Derived.Test.YtnkahcfkbpbhiaaInts
import Derived.Deep.QuietTactic
import Derived.BigQuiet
namespace Go.Proofs.Ytnkahcfkbpbhiaa
open Go.RowKit Go.Shelf
set_option linter.unusedVariables false
attribute [local go_sem] Oper.semAt_some

def InRow (L : List Bool) (k : Int) : Prop := 1 ≤ k ∧ k ≤ (L.length : Int)
instance (L : List Bool) (k : Int) : Decidable (InRow L k) := inferInstanceAs (Decidable (_ ∧ _))
def takeA (L : List Bool) (k : Int) : Int := if InRow L k then (match MarkMath.low L k.toNat with | some a => (a : Int) | none => 0) else 0
def takeE (L : List Bool) (k : Int) : Int := if InRow L k then (match MarkMath.low L k.toNat with | some _ => 0 | none => 4) else 2
def takeL (L : List Bool) (k : Int) : List Bool := if InRow L k then (match MarkMath.low L k.toNat with | some a => MarkMath.setAt L a k.toNat true | none => L) else L
theorem take_out {L : List Bool} {k : Int} (h : ¬ InRow L k) : takeA L k = 0 ∧ takeE L k = 2 ∧ takeL L k = L := by unfold takeA takeE takeL; simp [h]
theorem inRow_nat {L : List Bool} {k : Nat} (h1 : 1 ≤ k) (h2 : k ≤ L.length) : InRow L (k : Int) := ⟨by omega, by omega⟩
theorem take_full {L : List Bool} {k : Nat} (h1 : 1 ≤ k) (h2 : k ≤ L.length) (h : MarkMath.low L k = none) : takeA L k = 0 ∧ takeE L k = 4 ∧ takeL L k = L := by
  unfold takeA takeE takeL; simp [inRow_nat h1 h2, h]
theorem take_yes {L : List Bool} {k a : Nat} (h1 : 1 ≤ k) (h2 : k ≤ L.length) (h : MarkMath.low L k = some a) : takeA L k = a ∧ takeE L k = 0 ∧ takeL L k = MarkMath.setAt L a k true := by
  unfold takeA takeE takeL; simp [inRow_nat h1 h2, h]

theorem cells_own {A B : World} {row : Option Nat} (hg : A.grownBy B row) (hr : ∀ r, row = some r → ∃ o : Obj, A.heap[r]? = some o ∧ o.isCells = false) {b : Nat} {t : TypeId} {cs : Array Value} (hb : Blk A b t cs) : Blk B b t cs :=
  (grownBy_keeps_cells hg hr hb rfl).trans hb
theorem isMarks_own {β : Type} (p o g : Nat) (f : β → List Bool) : Own (fun s W => IsMarks W p o g (f s)) := fun s X Y row hs hg hr =>
  ⟨cell_kept hs.head hg hr, cells_own hg hr hs.row, hs.ne, hs.pos, hs.big⟩
theorem upd_own {β : Type} {S : Nat → Prop} {B : Nat} {w : World} (hB : w.heap.size ≤ B) : OwnFrom B (fun (_ : β) W => Upd S w W) := fun _ X Y row hs hg hr =>
  hs.grown hg fun k e => .inr (Nat.le_trans hB (hr k e).1)
theorem pure_own {β : Type} (φ : β → Prop) : Own (fun s (_ : World) => φ s) := fun s X Y row hs _ _ => hs
theorem own_and {β : Type} {I I' : β → World → Prop} (h : Own I) (h' : Own I') : Own (fun s W => I s W ∧ I' s W) := fun s X Y row hs hg hr => ⟨h s X Y row hs.1 hg hr, h' s X Y row hs.2 hg hr⟩
theorem own_ex {β γ : Type} {I : γ → β → World → Prop} (h : ∀ y, Own (I y)) : Own (fun s W => ∃ y, I y s W) := fun s X Y row ⟨y, hs⟩ hg hr => ⟨y, h y s X Y row hs hg hr⟩
/-- What was written lies in cells: whatever is no cells lies as it lay. -/
theorem Upd.others {w w' : World} {g : Nat} {t : TypeId} {cs : Array Value} (h : Upd (fun k => k = g) w w') (hg : Blk w g t cs) : KeepsOthers w w' :=
  ⟨h.size, fun k o hk ho => (h.block k (Array.getElem?_eq_some_iff.1 hk).1 (fun e => by
    subst e
    rw [show w.heap[k]? = _ from hg] at hk
    cases hk
    cases ho)).trans hk⟩
theorem Upd.putObj {S : Nat → Prop} {a w : World} (h : Upd S a w) (l : Nat) (o : Obj) (hl : a.heap.size ≤ l) : Upd S a (w.putObj l o) := h.grown (grownBy_putObj' w l o) fun k e => by cases e; exact .inr hl
theorem boxed_upd {S : Nat → Prop} {w w' : World} {B : Nat} {t : TypeId} {v : Value} (h : Boxed w B t v) (u : Upd S w w') (hs : ¬ S B) : Boxed w' B t v := Blk.upd (cs := #[v]) h u hs
theorem boxed_putObj {w : World} {B : Nat} {t : TypeId} {v : Value} (h : Boxed w B t v) (l : Nat) (o : Obj) (hne : B ≠ l) : Boxed (w.putObj l o) B t v := h.kept (grownBy_putObj' w l o) (fun e => hne (by cases e; rfl))

theorem IsMarks.putObj {w : World} {p o g : Nat} {L : List Bool} (h : IsMarks w p o g L) {l : Nat} {x : Obj} (y : Obj) (hl : w.heap[l]? = some x) (hx : x.isCells = false) : IsMarks (w.putObj l y) p o g L :=
  isMarks_own (β := Unit) p o g (fun _ => L) () _ _ (some l) h (grownBy_putObj' w l y) (fun r e => by cases e; exact ⟨x, hl, hx⟩)
theorem IsMarks.setCell {w : World} {p o g : Nat} {L : List Bool} (h : IsMarks w p o g L) {a : Addr} (hp : p ≠ a.block) (hg : g ≠ a.block) (v : Value) : IsMarks (w.setCell a v) p o g L :=
  ⟨(World.cell?_of_block (w := w) (Below.heap_setCell w a v p hp)).trans h.head, (Below.heap_setCell w a v g hg).trans h.row, h.ne, h.pos, h.big⟩

theorem box4 (w : World) (v0 v1 v2 v3 : Value) (t0 t1 t2 t3 : TypeId) : ∃ W, (((w.alloc (.cells #[v0] t0)).alloc (.cells #[v1] t1)).alloc (.cells #[v2] t2)).alloc (.cells #[v3] t3) = W ∧ Boxed W w.heap.size t0 v0 ∧ Boxed W (w.heap.size + 1) t1 v1 ∧ Boxed W (w.heap.size + 1 + 1) t2 v2 ∧ Boxed W (w.heap.size + 1 + 1 + 1) t3 v3 ∧
    W.heap.size = w.heap.size + 1 + 1 + 1 + 1 ∧ Upd (fun _ => False) w W := by
  refine ⟨_, rfl, (((Boxed.new w _ _).alloc _).alloc _).alloc _, ?_, ?_, ?_, by simp, ((((Upd.refl _ w).alloc _).alloc _).alloc _).alloc _⟩
  · have := ((Boxed.new (w.alloc (.cells #[v0] t0)) t1 v1).alloc (.cells #[v2] t2)).alloc (.cells #[v3] t3)
    rwa [World.size_alloc] at this
  · have := (Boxed.new ((w.alloc (.cells #[v0] t0)).alloc (.cells #[v1] t1)) t2 v2).alloc (.cells #[v3] t3)
    rwa [World.size_alloc, World.size_alloc] at this
  · have := Boxed.new (((w.alloc (.cells #[v0] t0)).alloc (.cells #[v1] t1)).alloc (.cells #[v2] t2)) t3 v3
    rwa [World.size_alloc, World.size_alloc, World.size_alloc] at this
theorem below_drewU {S : Nat → Prop} {a w : World} (h : Upd S a w) (n : Nat) : Upd S a (w.drewN n) := h.trans ⟨rfl, rfl, rfl, Nat.le_refl _, fun _ _ _ => rfl⟩

theorem take_nil (w : World) (k : Int) :
    Calls Try.prog 30 #[.pointer none, .int .i64 k] w fun e w' => e = .returned (.tuple #[.int .i64 0, .int .i64 1]) ∧ Below w.heap.size w w' := by
  go_enter Try.func30, Try.ntmps30
  go_wp2
  refine bodyPost_ret (v := .tuple #[.int .i64 0, .int .i64 1]) (by simp [results, Try.results30, go_sem]) rfl ⟨rfl, ?_⟩
  exact ((((Below.refl _ w).alloc (Nat.le_refl _) _).alloc (by simp) _).alloc (by simp; omega) _).alloc (by simp; omega) _

def TakeIs (w : World) (p o g : Nat) (L : List Bool) (k : Nat) (pre : List Row) (W : World) : Prop :=
  ((∀ y ∈ pre, ¬ k ≤ y.1.2) ∧ Boxed W w.heap.size 58 (.pointer (some ⟨p, o, none⟩)) ∧ Boxed W (w.heap.size + 1) 3 (.int .i64 (k : Int)) ∧ Boxed W (w.heap.size + 1 + 1) 3 (.int .i64 0) ∧ Boxed W (w.heap.size + 1 + 1 + 1) 25 (.int .i64 0) ∧ IsMarks W p o g L) ∧ Upd (fun k => k = g) w W
def TakeOut (w : World) (p o g : Nat) (L : List Bool) (k : Nat) (c : Code) (pre : List Row) (W : World) : Prop :=
  (c = .ret ∧ ∃ x : List Row × Row, pre = x.1 ++ [x.2] ∧ (∀ y ∈ x.1, ¬ k ≤ y.1.2) ∧ k ≤ x.2.1.2 ∧ Boxed W (w.heap.size + 1 + 1) 3 (.int .i64 (x.2.1.1 : Int)) ∧ Boxed W (w.heap.size + 1 + 1 + 1) 25 (.int .i64 (turnE true 6 L (x.2.1.1 : Int) (k : Int))) ∧ IsMarks W p o g (turnL true L (x.2.1.1 : Int) (k : Int))) ∧ Upd (fun k => k = g) w W
theorem takeIs_own {w : World} {B : Nat} (hB : w.heap.size ≤ B) (p o g : Nat) (L : List Bool) (k : Nat) : OwnFrom B (TakeIs w p o g L k) :=
  OwnFrom.and (Own.from (own_and (pure_own _) (own_and (boxed_own _ _ _) (own_and (boxed_own _ _ _) (own_and (boxed_own _ _ _) (own_and (boxed_own _ _ _) (isMarks_own _ _ _ _)))))) _) (upd_own hB)
theorem takeOut_own {w : World} {B : Nat} (hB : w.heap.size ≤ B) (p o g : Nat) (L : List Bool) (k : Nat) (c : Code) : OwnFrom B (TakeOut w p o g L k c) :=
  OwnFrom.and (Own.from (own_and (pure_own _) (own_ex fun x => own_and (pure_own _) (own_and (pure_own _) (own_and (pure_own _) (own_and (boxed_own _ _ _) (own_and (boxed_own _ _ _) (isMarks_own _ _ _ _))))))) _) (upd_own hB)
/-- The first row that has so many is the one that find? finds. -/
theorem low_first {L : List Bool} {k : Nat} {ini : List Row} {x : Row} (h : Come L (ini ++ [x])) (hn : ∀ y ∈ ini, ¬ k ≤ y.1.2) (hx : k ≤ x.1.2) : MarkMath.low L k = some x.1.1 := by
  obtain ⟨t, ht⟩ := h
  unfold MarkMath.low
  rw [← ht, List.map_append, List.append_assoc, List.find?_append]
  have e : (ini.map (·.1)).find? (fun y => decide (k ≤ y.2)) = none := by
    rw [List.find?_eq_none]
    intro y hy
    obtain ⟨z, hz, rfl⟩ := List.mem_map.1 hy
    simpa using hn z hz
  rw [e]
  simp [hx]
theorem low_nothing {L : List Bool} {k : Nat} {xs : List Row} (h : AllCome L xs) (hn : ∀ y ∈ xs, ¬ k ≤ y.1.2) : MarkMath.low L k = none := by
  unfold MarkMath.low
  rw [← h, Option.map_eq_none_iff, List.find?_eq_none]
  intro y hy
  obtain ⟨z, hz, rfl⟩ := List.mem_map.1 hy
  simpa using hn z hz

set_option maxRecDepth 100000 in
set_option maxHeartbeats 2000000 in
theorem take_in (p o g : Nat) (L : List Bool) (k : Nat) (w : World) (hm : IsMarks w p o g L) (hk1 : 1 ≤ k) (hk2 : k ≤ L.length) :
    CallsIn Fence.wide 5 Try.prog 30 #[.pointer (some ⟨p, o, none⟩), .int .i64 (k : Int)] w
      (Wrote w p o g (takeL L k) (.tuple #[.int .i64 (takeA L k), .int .i64 (takeE L k)])) := by
  have hp := hm.lt
  have hg := hm.row.lt
  have hbig := hm.big
  have hd := hm.head
  have HM := Lib.hid hm; clear hm
  refine callsIn_of_wp_marks Try.func30 rfl trivial ?_ rfl
  simp only [Try.ntmps30, List.size_toArray, List.length_cons, List.length_nil, Nat.reduceAdd, Nat.reduceSub, Array.replicate_succ, Array.replicate_zero, List.push_toArray, List.append_toArray, List.nil_append, List.cons_append]
  refine wpIn_wide.2 ?_
  have g0 : decide ((k : Int) < 1) = false := decide_eq_false (by omega)
  have g1 : decide (L.length < k) = false := decide_eq_false (by omega)
  go_wp2
  obtain ⟨W0, hW0, b2, b3, b4, b5, s0, u0⟩ := box4 w (.pointer (some ⟨p, o, none⟩)) (.int .i64 (k : Int)) (.int .i64 0) (.int .i64 0) 58 3 3 25
  rw [hW0]
  have I0 : TakeIs w p o g L k [] W0 := ⟨⟨by simp, b2, b3, b4, b5, HM.out.upd u0 id id⟩, u0.mono (fun _ x => x.elim)⟩
  clear b2 b3 b4 b5 u0
  clear hW0
  have c2 : W0.cell? ⟨w.heap.size, 0, none⟩ = some (.pointer (some ⟨p, o, none⟩)) := I0.1.2.1.cell
  have c3 : W0.cell? ⟨w.heap.size + 1, 0, none⟩ = some (.int .i64 (k : Int)) := I0.1.2.2.1.cell
  have cd : W0.cell? ⟨p, o, none⟩ = some (.slice (some ⟨g, 0, none⟩) L.length L.length) := I0.1.2.2.2.2.2.head
  have II := Lib.hid I0; have S0 := Lib.hid s0
  clear I0 s0
  go_quiet (fail)
  clear g0 g1
  go_wp2_with (go_at_call 34; refine (callsIn_wide.1 (rows_in Fence.wide 5 trivial rfl _ _)).mono ?_; rintro e w' ⟨rfl, rfl⟩)
  have hszb := S0.out
  have bN := Boxed.new (W0.drewN nq) 58 (.pointer (some ⟨p, o, none⟩))
  obtain ⟨W1, hW1⟩ : ∃ W1, (W0.drewN nq).alloc (.cells #[.pointer (some ⟨p, o, none⟩)] 58) = W1 := ⟨_, rfl⟩
  have I1 : TakeIs w p o g L k [] W1 := by
    rw [← hW1]
    refine (takeIs_own (Nat.le_refl _) p o g L k).alloc _ ?_
    obtain ⟨⟨h1, h2, h3, h4, h5, h6⟩, h7⟩ := II.out
    exact ⟨⟨h1, h2, h3, h4, h5, ⟨h6.head, h6.row, h6.ne, h6.pos, h6.big⟩⟩, ⟨h7.os, h7.tape, h7.output, h7.size, h7.block⟩⟩
  have s1 : W1.heap.size = W0.heap.size + 1 := by rw [← hW1]; simp [World.drewN]
  rw [hW1] at bN ⊢
  clear hW1 c2 c3 cd
  have hs1 : w.heap.size ≤ W1.heap.size := by omega
  have BN : Hid (Boxed W1 W0.heap.size 58 (.pointer (some ⟨p, o, none⟩))) := Lib.hid bN
  have I1' := Lib.hid I1; have S1 := Lib.hid s1
  clear bN I1 s1 hszb
  refine wpIn_wide (n := 5).1 ?_
  refine wpIn_rangeFunc_ownF rfl (by decide) (gf := 38) (lb := #[.pointer (some ⟨W0.heap.size, 0, none⟩)]) rfl trivial (enters_of Try.func38 (by kernel_rfl) rfl)
    (rows_stops Fence.wide _ trivial rfl (by decide) W0.heap.size p o g L W1 BN.out.cell I1'.out.1.2.2.2.2.2) keeps_t (keeps_b (fun k hk => by have := S1.out; rcases hk with rfl | rfl | rfl <;> omega)) (Below.refl _ _) (fun _ => rfl)
    (TakeIs w p o g L k) (TakeOut w p o g L k) (takeIs_own hs1 p o g L k) (takeOut_own hs1 p o g L k) I1'.out
    (fun x => { tmps := #[.pointer (some ⟨p, o, none⟩), .int .i64 (k : Int), .pointer (some ⟨w.heap.size, 0, none⟩), .pointer (some ⟨w.heap.size + 1, 0, none⟩), .pointer (some ⟨w.heap.size + 1 + 1, 0, none⟩), .pointer (some ⟨w.heap.size + 1 + 1 + 1, 0, none⟩), .int .i64 (x.1.1 : Int), .int .i64 (x.1.2 : Int),
      .pointer (some ⟨p, o, none⟩), .bool false, .int .i64 (k : Int), .bool false, .bool false, .int .i64 (k : Int), .pointer (some ⟨p, o, none⟩), .pointer (some ⟨p, o, none⟩), .pointer (some ⟨p, o, none⟩), .slice (some ⟨g, 0, none⟩) L.length L.length, .int .i64 (L.length : Int), .bool false, .bool false,
      .pointer (some ⟨p, o, none⟩), .func (.func 38) #[] #[.pointer (some ⟨W0.heap.size, 0, none⟩)], .int .i64 (x.1.1 : Int), .int .i64 (x.1.2 : Int), undef, undef, undef, undef, undef, undef, undef, undef], defers := [] }) ?assign ?body ?done ?stop
  case assign =>
    intro l x W K hK
    gi_wp2
    exact hK
  case body =>
    rintro l pre x W ⟨⟨hn, b2, b3, b4, b5, hm⟩, hu⟩ hlen
    have c2 := b2.cell
    have c3 := b3.cell
    obtain ⟨⟨xa, xn⟩, hxx⟩ := x
    have hxa : xa ≤ 256 := hxx.1
    have hxn : xn ≤ 256 := hxx.2
    have HN := Lib.hid hn; have B2 := Lib.hid b2; have B3 := Lib.hid b3; have B4 := Lib.hid b4; have B5 := Lib.hid b5; have M := Lib.hid hm; have U := Lib.hid hu
    clear hn b2 b3 b4 b5 hm hu hlen
    by_cases hx : k ≤ xn
    · have HC := Lib.hid (mark_any M.out (xa : Int) (k : Int) (I64.wf ⟨by omega, by omega⟩) (I64.wf ⟨by omega, by omega⟩))
      gi_wp2_with fail
      refine ⟨trivial, ?_⟩
      refine (CallsIn.inRound l (callsIn_wide.2 HC.out)).mono ?_
      rintro e W2 ⟨rfl, hm2, hu2⟩
      have M2 := Lib.hid hm2
      have U2 := Lib.hid hu2
      have d4 := Lib.hid (boxed_upd B4.out hu2 (Nat.ne_of_gt (by omega)))
      have d5 := Lib.hid (boxed_upd B5.out hu2 (Nat.ne_of_gt (by omega)))
      have f4 := d4.out.cell
      have f4' := d4.out.frozen
      have f5 := d5.out.cell
      have f5' := d5.out.frozen
      clear hm2 hu2
      gi_wp2
      refine ⟨(U2.out.others M.out.row).trans ((KeepsOthers.setCell _ _ _).trans (KeepsOthers.setCell _ _ _)), ⟨rfl, (pre, ⟨(xa, xn), hxx⟩), rfl, HN.out, hx, ?_, ?_, ?_⟩, ?_⟩
      · exact (d4.out.set _).other (by omega) _
      · exact (d5.out.other (by omega) _).set _
      · exact (M2.out.setCell (Nat.ne_of_lt (by simp only; omega)) (Nat.ne_of_lt (by simp only; omega)) _).setCell (Nat.ne_of_lt (by simp only; omega)) (Nat.ne_of_lt (by simp only; omega)) _
      · exact ((U.out.trans U2.out).setCell (.inr (by simp only; omega)) _).setCell (.inr (by simp only; omega)) _
    · have hx' : xn < k := by omega
      clear hx
      gi_wp2
      refine ⟨KeepsOthers.refl _, Keeps.refl _ _, ⟨?_, B2.out, B3.out, B4.out, B5.out, M.out⟩, U.out⟩
      intro y hy
      rcases List.mem_append.1 hy with hy | hy
      · exact HN.out y hy
      · obtain rfl := List.mem_singleton.1 hy
        exact Nat.not_le_of_lt hx'
  case done =>
    rintro D xs W hD hS ⟨⟨hn, b2, b3, b4, b5, hm⟩, hu⟩ hK
    have hsz := S1.out
    have h0 := S0.out
    obtain ⟨e1, e2, e3⟩ := take_full hk1 hk2 (low_nothing hS hn)
    have f4 := b4.cell
    have f4' := b4.frozen
    have f5 := b5.cell
    have f5' := b5.frozen
    have HD := Lib.hid (show w.heap.size + 1 + 1 + 1 < D by omega)
    have E := Lib.hid (And.intro e1 (And.intro e2 e3)); have B4 := Lib.hid b4; have B5 := Lib.hid b5; have M := Lib.hid hm; have U := Lib.hid hu; have KK := Lib.hid hK
    clear e1 e2 e3 hsz h0 b2 b3 b4 b5 hm hu hK hn hS hD
    go_wp2
    have hD := HD.out
    have hK' := ((KeepsOthers.setCell W ⟨w.heap.size + 1 + 1, 0, none⟩ (.int .i64 0)).trans (KeepsOthers.setCell _ ⟨w.heap.size + 1 + 1 + 1, 0, none⟩ (.int .i64 4))).same D _ KK.out rfl
    have q4 := (boxed_putObj ((B4.out.set (.int .i64 0)).other (show w.heap.size + 1 + 1 ≠ w.heap.size + 1 + 1 + 1 by omega) (.int .i64 4)) D (.deferred none) (by omega)).cell
    have q5 := (boxed_putObj ((B5.out.other (show w.heap.size + 1 + 1 + 1 ≠ w.heap.size + 1 + 1 by omega) (.int .i64 0)).set (.int .i64 4)) D (.deferred none) (by omega)).cell
    obtain ⟨e1, e2, e3⟩ := E.out
    rw [e1, e2, e3]
    refine ⟨by simp, .inl ⟨_, _, rfl, run_takeDeferred hK', ?_⟩⟩
    refine ⟨.tuple #[.int .i64 0, .int .i64 4], by simp [results, Try.f30, go_sem, q4, q5], rfl, ?_, ?_⟩
    · exact ((M.out.setCell (Nat.ne_of_lt (by simp only; omega)) (Nat.ne_of_lt (by simp only; omega)) _).setCell (Nat.ne_of_lt (by simp only; omega)) (Nat.ne_of_lt (by simp only; omega)) _).putObj _ hK' rfl
    · exact ((U.out.setCell (.inr (by simp only; omega)) _).setCell (.inr (by simp only; omega)) _).putObj D _ (by omega)
  case stop =>
    rintro D c pre W hD hSp ⟨⟨rfl, ⟨ini, x⟩, rfl, hn, hx, b4, b5, hm⟩, hu⟩ hK
    have hsz := S1.out
    have h0 := S0.out
    have hlow := low_first hSp hn hx
    have hfree := (MarkMath.low_some hk1 hlow).1
    obtain ⟨e1, e2, e3⟩ := take_yes hk1 hk2 hlow
    rw [turnE_yes hk1 hfree] at b5
    rw [turnL_yes hk1 hfree] at hm
    have q4 := (boxed_putObj b4 D (.deferred none) (by omega)).cell
    have q5 := (boxed_putObj b5 D (.deferred none) (by omega)).cell
    have m2 := hm.putObj (.deferred none) hK rfl
    have u2 := hu.putObj D (.deferred none) (by omega)
    rw [e1, e2, e3]
    have E := Lib.hid (And.intro hK (And.intro q4 (And.intro q5 (And.intro m2 u2))))
    clear e1 e2 e3 hlow hfree hn hx b4 b5 hm hu hK hsz h0 hSp q4 q5 m2 u2
    refine wpIn_wide.2 ?_
    go_wp2
    obtain ⟨hK, q4, q5, m2, u2⟩ := E.out
    refine ⟨by simp, .inl ⟨_, _, rfl, run_takeDeferred hK, ?_⟩⟩
    exact ⟨.tuple #[.int .i64 (x.1.1 : Int), .int .i64 0], by simp [results, Try.f30, go_sem, q4, q5], rfl, m2, u2⟩
/-- Take, of too few or too many. -/
theorem take_far {w : World} {p o g : Nat} {L : List Bool} (hm : IsMarks w p o g L) (k : Int) (hk : ¬ InRow L k) :
    Calls Try.prog 30 #[.pointer (some ⟨p, o, none⟩), .int .i64 k] w fun e w' => e = .returned (.tuple #[.int .i64 0, .int .i64 2]) ∧ Upd (fun _ => False) w w' := by
  have hd := hm.head
  have hp := hm.lt
  have hbig := hm.big
  clear hm
  obtain ⟨W0, hW0, b2, b3, b4, b5, s0, u0⟩ := box4 w (.pointer (some ⟨p, o, none⟩)) (.int .i64 k) (.int .i64 0) (.int .i64 0) 58 3 3 25
  have c2 := b2.cell
  have c3 := b3.cell
  have c4 := b4.cell
  have c5 := b5.cell
  have f4 := b4.frozen
  have f5 := b5.frozen
  have cd : W0.cell? ⟨p, o, none⟩ = some (.slice (some ⟨g, 0, none⟩) L.length L.length) := (World.cell?_of_block (w := w) (u0.block p hp id)).trans hd
  have HW := Lib.hid hW0; have S0 := Lib.hid s0; have U0 := Lib.hid u0
  clear hW0 s0 u0 b2 b3 b4 b5 hd
  unfold InRow at hk
  by_cases h1 : k < 1
  · have g0 : decide (k < 1) = true := decide_eq_true h1
    clear hk
    go_enter Try.func30, Try.ntmps30
    go_wp2
    rw [HW.out]
    go_quiet (fail)
    clear g0 h1
    go_wp2
    refine bodyPost_ret (v := .tuple #[.int .i64 0, .int .i64 2]) (by simp [results, Try.results30, go_sem, c4, c5]) rfl ⟨rfl, ?_⟩
    exact ((below_drewU U0.out nq).setCell (.inr (by simp only; omega)) _).setCell (.inr (by simp only; omega)) _
  · have g0 : decide (k < 1) = false := decide_eq_false h1
    have g1 : decide ((L.length : Int) < k) = true := decide_eq_true (by omega)
    clear hk
    go_enter Try.func30, Try.ntmps30
    go_wp2
    rw [HW.out]
    go_quiet (fail)
    clear g0 g1 h1
    go_wp2
    refine bodyPost_ret (v := .tuple #[.int .i64 0, .int .i64 2]) (by simp [results, Try.results30, go_sem, c4, c5]) rfl ⟨rfl, ?_⟩
    exact ((below_drewU U0.out nq).setCell (.inr (by simp only; omega)) _).setCell (.inr (by simp only; omega)) _
/-- Take, whatever it is called with. -/
theorem take_any {w : World} {p o g : Nat} {L : List Bool} (hm : IsMarks w p o g L) (k : Int) :
    Calls Try.prog 30 #[.pointer (some ⟨p, o, none⟩), .int .i64 k] w (Wrote w p o g (takeL L k) (.tuple #[.int .i64 (takeA L k), .int .i64 (takeE L k)])) := by
  by_cases hk : InRow L k
  · obtain ⟨h1, h2⟩ := hk
    obtain ⟨k, rfl⟩ := Int.eq_ofNat_of_zero_le (show 0 ≤ k by omega)
    exact callsIn_wide.1 (take_in p o g L k w hm (by omega) (by omega))
  · refine (take_far hm k hk).mono ?_
    rintro e w' ⟨rfl, hu⟩
    obtain ⟨e1, e2, e3⟩ := take_out hk
    exact ⟨by rw [e1, e2], by rw [e3]; exact hm.upd hu id id, hu.mono (fun _ x => x.elim)⟩
end Go.Proofs.Ytnkahcfkbpbhiaa
