/- The arena (layer 4): what it is in memory; New, Refused, full, next, Refuse: contracts. -/
import Derived.Test.YtnkahcfkbpbhiaaVec
import Derived.Test.YtnkahcfkbpbhiaaArenaMath
import Derived.Test.YtnkahcfkbpbhiaaMark3
import Derived.Test.YtnkahcfkbpbhiaaMark4
import Derived.Below
namespace Go.Proofs.Ytnkahcfkbpbhiaa
open Go.RowKit
set_option linter.unusedVariables false

theorem below_false {w w' : World} {B : Nat} (h : Upd (fun _ => False) w w') (hB : B ≤ w.heap.size) : Below B w w' := h.below (fun k x => x.elim) hB
theorem IsMarks.drewN {w : World} {p o g : Nat} {L : List Bool} (h : IsMarks w p o g L) (n : Nat) : IsMarks (w.drewN n) p o g L := ⟨h.head, h.row, h.ne, h.pos, h.big⟩
theorem IsMarks.drew {w : World} {p o g : Nat} {L : List Bool} (h : IsMarks w p o g L) : IsMarks w.drew p o g L := ⟨h.head, h.row, h.ne, h.pos, h.big⟩
theorem wf_small (n : Nat) (h : n ≤ 1000000) : (Lit.int .i64 (n : Int)).wf = true := I64.wf ⟨by omega, by omega⟩
/-- Behind a call that makes blocks of its own alone. -/
theorem updFalse_of {w w' : World} (h : Below w.heap.size w w') : Upd (fun _ => False) w w' := ⟨h.os, h.tape, h.output, h.size, fun k hk _ => h.block k hk⟩

theorem upd_cell (w : World) (q i : Nat) (v : Value) : Upd (fun k => k = q) w (w.setCell ⟨q, i, none⟩ v) := (Upd.refl (fun k => k = q) w).setCell (p := ⟨q, i, none⟩) (.inl rfl) v
def n64 (n : Nat) : Value := .int .i64 (n : Int)
theorem row_cell {w : World} {e : TypeId} {g : Nat} {R : List Nat} (h : Blk w g e (R.map n64).toArray) (j : Nat) (hj : j < R.length) : w.cell? ⟨g, j, none⟩ = some (.int .i64 ((R.getD j 0 : Nat) : Int)) := by
  rw [Blk.cell h, List.getElem?_toArray, List.getElem?_map]
  simp [List.getD_eq_getElem?_getD, hj, n64]
theorem row_put {w : World} {e : TypeId} {g : Nat} {R : List Nat} (h : Blk w g e (R.map n64).toArray) (p x : Nat) (X : Int) (hX : X = (x : Int)) : Blk (w.setCell ⟨g, p, none⟩ (.int .i64 X)) g e ((R.set p x).map n64).toArray := by
  subst hX
  have := Blk.put h p (.int .i64 (x : Int))
  rw [List.map_set]
  rw [List.setIfInBounds_toArray] at this
  exact this
theorem made_ints (n : Nat) : madeCells (Value.cells (.int .i64 0)) n = ((List.replicate n 0).map n64).toArray := by
  apply Array.ext
  · simp [madeCells]
  · intro i h1 h2
    simp [madeCells, Value.cells, Nat.mod_one, n64]
section
variable {P : Program}
/-- make of ints, all 0. -/
theorem wpList_make_ints {w : World} {ops : Array Oper} {rest : List Oper} {o : Oper} {a : Act} {Q : Exit → Act → World → Prop}
    (hgd : o.guard = none) (l c : Operand) (t : TypeId) (ho : o.op = .makeSlice t l c)
    (e : TypeId) (i : TypeInfo) (ht : P.underlying t = some (.slice e)) (hi : P.info? e = some i) (hz : i.zero = some (.int .i64 0)) (hsize : i.size = 1) (hby : i.bytes = 8)
    (k k' : IntKind) (C : Int) (n : Nat) (hl : a.eval l = .int k C) (hc : a.eval c = .int k' C) (hC : C = (n : Int)) (hn : n ≤ 1000000000000)
    (hK : ∀ w', Blk w' w.heap.size e ((List.replicate n 0).map n64).toArray → Upd (fun _ => False) w w' → w'.heap.size = w.heap.size + 1 → wpList P ops Q rest (a.put o.dst (.slice (some ⟨w.heap.size, 0, none⟩) n n)) w') :
    wpList P ops Q (o :: rest) a w := by
  refine wpList_plain hgd fun K hK' => ?_
  subst hC
  have hrun := run_make (P := P) w t e i (.int .i64 0) ht hi hz k k' (n : Int) (n : Int) (by omega) (by omega) (by rw [hby]; omega) (by omega)
  simp only [Int.toNat_natCast, hsize, Nat.mul_one, made_ints] at hrun
  unfold Oper.wp
  simp only [execOp, ho, hl, hc, Sem.run_bind, hrun, Result.andThen_ok, Sem.run_pure]
  exact hK' _ _ (hK _ (heap_alloc_new w _) ((Upd.refl _ _).alloc _) (by simp))
end

/-! ### The parts -/
structure Sep (q p g rb : Nat) (tv : Value) : Prop where
  qp : q ≠ p
  qg : q ≠ g
  qr : q ≠ rb
  pr : p ≠ rb
  gr : g ≠ rb
  t : ∀ k, In tv k → k ≠ q ∧ k ≠ p ∧ k ≠ g ∧ k ≠ rb
def Mine (q p g rb : Nat) (tv : Value) (k : Nat) : Prop := k = q ∨ k = p ∨ k = g ∨ k = rb ∨ In tv k
structure Raw (w : World) (q p g rb : Nat) (tv : Value) (S lim : Nat) (T : List Bool) (r : Nat) (R : List Nat) (L : List Bool) : Prop where
  head : Blk w q 65 #[.pointer (some ⟨p, 0, none⟩), .slice (some ⟨rb, 0, none⟩) S S, .int .i64 (lim : Int), tv, .int .i64 (r : Int)]
  marks : IsMarks w p 0 g L
  regs : Blk w rb 3 (R.map n64).toArray
  lenR : R.length = S
  told : Vec Elem.bools w tv T
  sep : Sep q p g rb tv
section
variable {w w' : World} {q p g rb : Nat} {tv : Value} {S lim : Nat} {T : List Bool} {r : Nat} {R : List Nat} {L : List Bool}
theorem Raw.c0 (h : Raw w q p g rb tv S lim T r R L) : w.cell? ⟨q, 0, none⟩ = some (.pointer (some ⟨p, 0, none⟩)) := h.head.cell 0
theorem Raw.c1 (h : Raw w q p g rb tv S lim T r R L) : w.cell? ⟨q, 1, none⟩ = some (.slice (some ⟨rb, 0, none⟩) S S) := h.head.cell 1
theorem Raw.c2 (h : Raw w q p g rb tv S lim T r R L) : w.cell? ⟨q, 2, none⟩ = some (.int .i64 (lim : Int)) := h.head.cell 2
theorem Raw.c3 (h : Raw w q p g rb tv S lim T r R L) : w.cell? ⟨q, 3, none⟩ = some tv := h.head.cell 3
theorem Raw.c4 (h : Raw w q p g rb tv S lim T r R L) : w.cell? ⟨q, 4, none⟩ = some (.int .i64 (r : Int)) := h.head.cell 4
theorem Raw.lt (h : Raw w q p g rb tv S lim T r R L) {k : Nat} (hk : Mine q p g rb tv k) : k < w.heap.size := by
  rcases hk with rfl | rfl | rfl | rfl | hk
  · exact h.head.lt
  · exact h.marks.lt
  · exact h.marks.row.lt
  · exact h.regs.lt
  · exact h.told.lt hk
theorem Raw.upd {X : Nat → Prop} (h : Raw w q p g rb tv S lim T r R L) (u : Upd X w w') (hX : ∀ k, Mine q p g rb tv k → ¬ X k) : Raw w' q p g rb tv S lim T r R L :=
  ⟨h.head.upd u (hX q (.inl rfl)), h.marks.upd u (hX p (.inr (.inl rfl))) (hX g (.inr (.inr (.inl rfl)))), h.regs.upd u (hX rb (.inr (.inr (.inr (.inl rfl))))), h.lenR, h.told.upd u (fun k hk => hX k (.inr (.inr (.inr (.inr hk))))), h.sep⟩
theorem Raw.grew (h : Raw w q p g rb tv S lim T r R L) (hb : Below w.heap.size w w') : Raw w' q p g rb tv S lim T r R L := h.upd (updFalse_of hb) (fun _ _ => id)
theorem Raw.alloc (h : Raw w q p g rb tv S lim T r R L) (o : Obj) : Raw (w.alloc o) q p g rb tv S lim T r R L := h.upd ((Upd.refl (fun _ => False) w).alloc o) (fun _ _ => id)
theorem Raw.drew (h : Raw w q p g rb tv S lim T r R L) : Raw w.drew q p g rb tv S lim T r R L := h.upd ((Upd.refl (fun _ => False) w).drew) (fun _ _ => id)
theorem Raw.count (h : Raw w q p g rb tv S lim T r R L) (n : Nat) (X : Int) (hX : X = (n : Int)) : Raw (w.setCell ⟨q, 4, none⟩ (.int .i64 X)) q p g rb tv S lim T n R L := by
  subst hX
  have u : Upd (fun k => k = q) w (w.setCell ⟨q, 4, none⟩ (.int .i64 (n : Int))) := upd_cell w _ _ _
  exact ⟨h.head.put 4 _, h.marks.upd u (Ne.symm h.sep.qp) (Ne.symm h.sep.qg), h.regs.upd u (Ne.symm h.sep.qr), h.lenR, h.told.upd u (fun k hk => (h.sep.t k hk).1), h.sep⟩
theorem Raw.tell (h : Raw w q p g rb tv S lim T r R L) {tv' : Value} {T' : List Bool} (hv : Vec Elem.bools w tv' T') (hs : ∀ k, In tv' k → k ≠ q ∧ k ≠ p ∧ k ≠ g ∧ k ≠ rb) : Raw (w.setCell ⟨q, 3, none⟩ tv') q p g rb tv' S lim T' r R L := by
  have u : Upd (fun k => k = q) w (w.setCell ⟨q, 3, none⟩ tv') := upd_cell w _ _ _
  exact ⟨h.head.put 3 _, h.marks.upd u (Ne.symm h.sep.qp) (Ne.symm h.sep.qg), h.regs.upd u (Ne.symm h.sep.qr), h.lenR, hv.upd u (fun k hk => (hs k hk).1), ⟨h.sep.qp, h.sep.qg, h.sep.qr, h.sep.pr, h.sep.gr, hs⟩⟩
theorem Raw.region (h : Raw w q p g rb tv S lim T r R L) (a n : Nat) (X : Int) (hX : X = (n : Int)) : Raw (w.setCell ⟨rb, a, none⟩ (.int .i64 X)) q p g rb tv S lim T r (R.set a n) L := by
  have u : Upd (fun k => k = rb) w (w.setCell ⟨rb, a, none⟩ (.int .i64 X)) := upd_cell w _ _ _
  exact ⟨h.head.upd u h.sep.qr, h.marks.upd u h.sep.pr h.sep.gr, row_put h.regs a n X hX, by rw [List.length_set]; exact h.lenR, h.told.upd u (fun k hk => (h.sep.t k hk).2.2.2), h.sep⟩
theorem Raw.marked (h : Raw w q p g rb tv S lim T r R L) {M : List Bool} (hm : IsMarks w' p 0 g M) (u : Upd (fun k => k = g) w w') : Raw w' q p g rb tv S lim T r R M :=
  ⟨h.head.upd u h.sep.qg, hm, h.regs.upd u (Ne.symm h.sep.gr), h.lenR, h.told.upd u (fun k hk => (h.sep.t k hk).2.2.1), h.sep⟩
theorem Vec.shape {α : Type} {E : Elem α} {w : World} {v : Value} {l : List α} (h : Vec E w v l) : ∃ a cap, v = .slice a l.length cap ∧ l.length ≤ cap ∧ cap ≤ 9223372036854775807 := by
  rcases h with ⟨rfl, rfl⟩ | ⟨g, off, cap, rfl, _, h1, h2, _⟩
  · exact ⟨none, 0, rfl, by simp, by omega⟩
  · exact ⟨_, cap, rfl, h1, by simp only [maxLen] at h2; omega⟩
theorem Vec.is {α : Type} {E : Elem α} {w : World} {v : Value} {l : List α} (h : Vec E w v l) : ∃ a n cap, v = .slice a n cap := by
  obtain ⟨a, cap, rfl, _, _⟩ := h.shape; exact ⟨a, _, cap, rfl⟩
end
theorem sizeInt (w : World) : (sizeOf (Try.prog.elem 61)).run Try.prog w = .ok 1 w := by kernel_rfl
theorem infoI : (Try.prog.info? 3).map (fun i => (i.zero, i.size, i.bytes)) = some (some (.int .i64 0), 1, 8) := by kernel_rfl

/-! ### New -/
def NewOut (w : World) (S lim : Nat) (e : Ending) (w' : World) : Prop :=
  ∃ q p g rb, e = .returned (.tuple #[.pointer (some ⟨q, 0, none⟩), .int .i64 0]) ∧ Raw w' q p g rb (.slice none 0 0) S lim [] 0 (List.replicate S 0) (MarkMath.rep S false) ∧ (∀ k, Mine q p g rb (.slice none 0 0) k → w.heap.size ≤ k) ∧ Upd (fun _ => False) w w'
theorem arena_new (S lim : Nat) (h1 : 1 ≤ S) (h2 : S ≤ 64) (h3 : lim ≤ S) (w : World) : Calls Try.prog 10 #[.int .i64 (S : Int), .int .i64 (lim : Int)] w (NewOut w S lim) := by
  obtain ⟨i0, hi, hz0, hz1, hz2⟩ := info_parts infoI
  have t1 : decide ((64 : Int) < (S : Int)) = false := decide_eq_false (by omega)
  have t2 : decide ((lim : Int) < 0) = false := decide_eq_false (by omega)
  have t3 : decide (S < lim) = false := decide_eq_false (by omega)
  have H1 := Lib.hid h1; have H2 := Lib.hid h2; have H3 := Lib.hid h3
  go_enter Try.func10, Try.ntmps10
  go_wp2_with fail
  refine (new_ok S h1 (by omega) _).mono ?_; rintro e w1 ⟨p, g, rfl, hm, hp, hg, hu⟩
  have M1 := Lib.hid hm; have U1 := Lib.hid hu
  have HP := Lib.hid hp; have HG := Lib.hid hg
  clear hm hu hp hg h1 h2 h3
  go_wp2_with (at_make; refine wpList_make_ints rfl _ _ 61 rfl 3 i0 Try.underlying61 hi hz0 hz1 hz2 _ _ _ S rfl rfl rfl ?_ ?_; (have := H2.out; omega); intro w2 hr hu hs)
  have S2 := Lib.hid hs; have R2 := Lib.hid hr; have U2 := Lib.hid hu
  clear hs hr hu t1 t2 t3
  go_wp2
  go_ret2
  have e2 := S2.out
  have l1 := M1.out.lt
  have l2 := M1.out.row.lt
  have hn := M1.out.ne
  have u1 := U1.out.size
  have p1 := HP.out
  have g1 := HG.out
  refine ⟨w2.heap.size, p, g, w1.heap.size, by rw [e2]; rfl, ⟨?_, (M1.out.upd U2.out id id).alloc _, R2.out.alloc _, by simp, Vec.nil _, ⟨by omega, by omega, by omega, by omega, by omega, by intro k hk; cases hk⟩⟩, ?_, (U1.out.trans U2.out).alloc _⟩
  · exact Blk.new w2 _ _
  · rintro k (rfl | rfl | rfl | rfl | hk)
    · omega
    · omega
    · omega
    · omega
    · cases hk
theorem arena_new_bad (a b : Int) (ha : (Lit.int .i64 a).wf = true) (h : a < 1 ∨ 64 < a ∨ b < 0 ∨ a < b) (w : World) :
    Calls Try.prog 10 #[.int .i64 a, .int .i64 b] w fun e w' => e = .returned (.tuple #[.pointer none, .int .i64 2]) ∧ Upd (fun _ => False) w w' := by
  by_cases hs : a < 1 ∨ 256 < a
  · have HN := Lib.hid (fun w => new_bad a hs w)
    clear h hs
    go_enter Try.func10, Try.ntmps10
    go_wp2_with fail
    refine (HN.out _).mono ?_; rintro e w1 ⟨rfl, rfl⟩
    go_wp2
    go_ret2
    exact ⟨rfl, Upd.refl _ _⟩
  · obtain ⟨a, rfl⟩ := Int.eq_ofNat_of_zero_le (show 0 ≤ a by omega)
    have HN := Lib.hid (fun w => new_ok a (by omega) (by omega) w)
    by_cases c1 : (64 : Int) < (a : Int)
    · have t1 : decide ((64 : Int) < (a : Int)) = true := decide_eq_true c1
      clear h hs c1
      go_enter Try.func10, Try.ntmps10
      go_wp2_with fail
      refine (HN.out _).mono ?_; rintro e w1 ⟨p, g, rfl, hm, hp, hg, hu⟩
      have U1 := Lib.hid hu
      clear hm hp hg hu
      go_wp2
      go_ret2
      exact ⟨rfl, U1.out⟩
    · have t1 : decide ((64 : Int) < (a : Int)) = false := decide_eq_false c1
      by_cases c2 : b < 0
      · have t2 : decide (b < 0) = true := decide_eq_true c2
        clear h hs c1 c2
        go_enter Try.func10, Try.ntmps10
        go_wp2_with fail
        refine (HN.out _).mono ?_; rintro e w1 ⟨p, g, rfl, hm, hp, hg, hu⟩
        have U1 := Lib.hid hu
        clear hm hp hg hu
        go_wp2
        go_ret2
        exact ⟨rfl, U1.out⟩
      · have t2 : decide (b < 0) = false := decide_eq_false c2
        have t3 : decide ((a : Int) < b) = true := decide_eq_true (by omega)
        clear h hs c1 c2
        go_enter Try.func10, Try.ntmps10
        go_wp2_with fail
        refine (HN.out _).mono ?_; rintro e w1 ⟨p, g, rfl, hm, hp, hg, hu⟩
        have U1 := Lib.hid hu
        clear hm hp hg hu
        go_wp2
        go_ret2
        exact ⟨rfl, U1.out⟩

/-! ### Refused, full, next, Refuse -/
section
variable {w : World} {q p g rb : Nat} {tv : Value} {S lim : Nat} {T : List Bool} {r : Nat} {R : List Nat} {L : List Bool}
theorem refused_raw (h : Raw w q p g rb tv S lim T r R L) : Calls Try.prog 22 #[.pointer (some ⟨q, 0, none⟩)] w fun e w' => e = .returned (.int .i64 (r : Int)) ∧ w = w' := by
  have c4 := h.c4
  clear h
  go_enter Try.func22, Try.ntmps22
  go_wp2
  go_ret
  exact ⟨rfl, rfl⟩
theorem full_raw (h : Raw w q p g rb tv S lim T r R L) (hr : r ≤ 1000000000000) : Calls Try.prog 29 #[.pointer (some ⟨q, 0, none⟩)] w fun e w' =>
    e = .returned (.tuple #[.int .i64 0, .int .i64 4]) ∧ Raw w' q p g rb tv S lim T (r + 1) R L ∧ Upd (fun k => k = q) w w' := by
  have c4 := h.c4
  have f4 : w.frozen? ⟨q, 4, none⟩ = false := h.head.frozen 4
  have H := Lib.hid h
  clear h
  go_enter Try.func29, Try.ntmps29
  go_wp2
  go_ret2
  exact ⟨rfl, H.out.count (r + 1) _ (by omega), upd_cell w _ _ _⟩
theorem sizeBs (w : World) : (sizeOf (Try.prog.elem 31)).run Try.prog w = .ok Elem.bools.size w := by kernel_rfl
theorem next_raw (h : Raw w q p g rb tv S lim T r R L) (hT : T.length ≤ 1000) : Calls Try.prog 28 #[.pointer (some ⟨q, 0, none⟩)] w fun e w' =>
    e = .returned (.bool (T.headD false)) ∧ (∃ tv', Raw w' q p g rb tv' S lim (T.drop 1) r R L ∧ ∀ k, In tv' k → In tv k) ∧ Upd (fun k => k = q) w w' := by
  have c3 := h.c3
  have f3 : w.frozen? ⟨q, 3, none⟩ = false := h.head.frozen 3
  obtain ⟨a, cap, rfl, h1, h2⟩ := h.told.shape
  have H := Lib.hid h
  clear h
  cases T with
  | nil =>
    simp only [List.length_nil] at c3 h1 hT
    go_enter Try.func28, Try.ntmps28
    go_wp2
    go_ret
    exact ⟨rfl, ⟨_, H.out, fun _ h => h⟩, Upd.refl _ _⟩
  | cons b T =>
    obtain ⟨tb, off, rfl, hc⟩ := H.out.told.seq.elem (i := 0) (x := b) rfl
    have hcell := hc 0 (.bool b) rfl
    simp only [Nat.zero_mul, Nat.add_zero] at hcell
    obtain ⟨sv, hsv, hin, _, hvec⟩ := cut_from (E := Elem.bools) (P := Try.prog) 31 Try.underlying31 sizeBs (some ⟨tb, off, none⟩) (b :: T).length cap 1 (by simp) h1
    rw [show ((1 : Nat) : Int) = (1 : Int) from rfl] at hsv
    obtain ⟨a', n', cap', rfl⟩ := (hvec _ _ H.out.told).is
    have HI := Lib.hid hin; have HV := Lib.hid hvec
    obtain ⟨n, hn⟩ : ∃ n, (b :: T).length = n := ⟨_, rfl⟩
    have hn1 : 1 ≤ n := by rw [← hn]; simp
    have tn : ((n : Int) == 0) = false := by rw [beq_eq_false_iff_ne]; omega
    rw [hn] at c3 h1 hsv hT
    have HN := Lib.hid hn
    clear hc hin hvec hn
    go_enter Try.func28, Try.ntmps28
    go_wp2
    go_ret
    refine ⟨rfl, ⟨_, H.out.tell (HV.out _ _ H.out.told) (fun k hk => H.out.sep.t k (HI.out k hk)), HI.out⟩, upd_cell w _ _ _⟩
theorem infoBs : (Try.prog.info? 4).map (fun i => (i.zero, i.size, i.bytes)) = some (some (.bool false), 1, 1) := by kernel_rfl
theorem refuse_raw (h : Raw w q p g rb tv S lim T r R L) (hT : T.length ≤ 1000) {v : Value} {m : List Bool} (hv : Seq Elem.bools w v m) (hm : T.length + m.length ≤ 1000) :
    Calls Try.prog 14 #[.pointer (some ⟨q, 0, none⟩), v] w fun e w' =>
    e = .returned (.int .i64 0) ∧ (∃ tv', Raw w' q p g rb tv' S lim (T ++ m) r R L ∧ ∀ k, In tv' k → In tv k ∨ w.heap.size ≤ k) ∧ Upd (fun k => k = q ∨ In tv k) w w' := by
  obtain ⟨i0, hi, hz0, hz1, hz2⟩ := info_parts infoBs
  have c3 := h.c3
  have f3 : w.frozen? ⟨q, 3, none⟩ = false := h.head.frozen 3
  obtain ⟨a, cap, rfl, h1, h2⟩ := h.told.shape
  obtain ⟨A, vc, rfl⟩ : ∃ A vc, v = .slice A m.length vc := by
    rcases hv with ⟨b, off, c, rfl, _⟩ | ⟨rfl, A, c, rfl, _⟩
    · exact ⟨_, c, rfl⟩
    · exact ⟨A, c, rfl⟩
  have t1 : decide ((1000 : Int) - (T.length : Int) < (m.length : Int)) = false := decide_eq_false (by omega)
  have hq : ¬ In (.slice a T.length cap) q := fun hk => (h.sep.t q hk).1 rfl
  have HC : Hid (∀ w1, Upd (In (.slice a T.length cap)) w w1 → w1.cell? ⟨q, 3, none⟩ = some (.slice a T.length cap)) := Lib.hid fun w1 hu1 => (World.cell?_of_block (w := w) (hu1.block q h.head.lt hq)).trans c3
  have HF : Hid (∀ w1, Upd (In (.slice a T.length cap)) w w1 → w1.frozen? ⟨q, 3, none⟩ = false) := Lib.hid fun w1 hu1 => (World.frozen?_of_block (w := w) (hu1.block q h.head.lt hq)).trans f3
  have H := Lib.hid h; have HV := Lib.hid hv
  clear h hv
  go_enter Try.func14, Try.ntmps14
  go_wp2_with (at_builtin; refine wpList_append_vec (E := Elem.bools) rfl (.tmp 20) (.tmp 21) 31 rfl 4 i0 (.bool false) 1 Try.underlying31 hi hz0 hz1 hz2 rfl (.slice a T.length cap) (.slice A m.length vc) T m rfl rfl H.out.told HV.out ?_ ?_ ?_; (simp only [maxLen]; omega); omega; intro v' w1 hv1 hu1 hin1; obtain ⟨a', n', cap', rfl⟩ := hv1.is; have c3' := HC.out w1 hu1; have f3' := HF.out w1 hu1)
  have V1 := Lib.hid hv1; have U1 := Lib.hid hu1; have N1 := Lib.hid hin1
  clear hv1 hu1 hin1 t1 c3 f3
  go_wp2
  go_ret
  have u1 := U1.out
  have sp := H.out.sep
  have hl := fun k hk => H.out.lt (k := k) hk
  have bk : ∀ k, k = q ∨ k = p ∨ k = g ∨ k = rb → ¬ In (.slice a T.length cap) k := by
    intro k hk hin
    have := sp.t k hin
    omega
  have hnew : ∀ k, In (.slice a' n' cap') k → k ≠ q ∧ k ≠ p ∧ k ≠ g ∧ k ≠ rb := by
    intro k hk
    rcases N1.out k hk with h | h
    · exact sp.t k h
    · have a1 := hl q (.inl rfl)
      have a2 := hl p (.inr (.inl rfl))
      have a3 := hl g (.inr (.inr (.inl rfl)))
      have a4 := hl rb (.inr (.inr (.inr (.inl rfl))))
      omega
  have u2 : Upd (fun k => k = q) w1 (w1.setCell ⟨q, 3, none⟩ (.slice a' n' cap')) := upd_cell w1 _ _ _
  refine ⟨rfl, ⟨_, ⟨(H.out.head.upd u1 (bk q (.inl rfl))).put 3 _, (H.out.marks.upd u1 (bk p (.inr (.inl rfl))) (bk g (.inr (.inr (.inl rfl))))).upd u2 (Ne.symm sp.qp) (Ne.symm sp.qg), (H.out.regs.upd u1 (bk rb (.inr (.inr (.inr rfl))))).upd u2 (Ne.symm sp.qr), H.out.lenR, V1.out.upd u2 (fun k hk => (hnew k hk).1), ⟨sp.qp, sp.qg, sp.qr, sp.pr, sp.gr, hnew⟩⟩, N1.out⟩, (u1.mono (fun k hk => .inr hk)).trans (u2.mono (fun k hk => .inl hk))⟩
theorem refuse_raw_full (h : Raw w q p g rb tv S lim T r R L) (hT : T.length ≤ 1000) {v : Value} {m : List Bool} (hv : Seq Elem.bools w v m) (hm : 1000 < T.length + m.length) :
    Calls Try.prog 14 #[.pointer (some ⟨q, 0, none⟩), v] w fun e w' => e = .returned (.int .i64 4) ∧ w = w' := by
  have c3 := h.c3
  obtain ⟨a, cap, rfl, h1, h2⟩ := h.told.shape
  obtain ⟨A, vc, rfl⟩ : ∃ A vc, v = .slice A m.length vc := by
    rcases hv with ⟨b, off, c, rfl, _⟩ | ⟨rfl, A, c, rfl, _⟩
    · exact ⟨_, c, rfl⟩
    · exact ⟨A, c, rfl⟩
  have t1 : decide ((1000 : Int) - (T.length : Int) < (m.length : Int)) = true := decide_eq_true (by omega)
  clear h hv
  go_enter Try.func14, Try.ntmps14
  go_wp2
  go_ret
  exact ⟨rfl, rfl⟩
end
end Go.Proofs.Ytnkahcfkbpbhiaa
