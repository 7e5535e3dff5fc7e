/- The landed ledger: Add. -/
import Derived.Test.YtclmdjkihijciaaLedK
namespace Go.Proofs.Ytclmdjkihijciaa
open Go.RowKit LedMath
set_option linter.unusedVariables false

/-- A call of a Go function as one step of a region that draws its order. -/
theorem step_call15 {P : Program} {w : World} {ops : Array Oper} {o : Oper} {a : Act} {K : Act → World → Prop} {Q : Exit → Act → World → Prop} {X : Prop} (hgd : o.guard = none) (f : FuncId) (vs : Array Value)
    (hrun : (execOp a.eval o).run P w = .ok (.enter f vs) w) {R : Ending → World → Prop} (hc : Calls P f vs w R)
    (h : ∀ e w', R e w' → ∃ v, e = .returned v ∧ K (a.put o.dst v) w') : if Region.wanted o (yielded ops a.tmps) = true then Oper.wp P o a w K Q else X := by
  have hw : Region.wanted o (yielded ops a.tmps) = true := by simp [Region.wanted, hgd]
  rw [if_pos hw]
  unfold Oper.wp
  rw [hrun, Oper.upon_enter]
  refine hc.mono fun e w' hr => ?_
  obtain ⟨v, rfl, hk⟩ := h e w' hr
  exact hk
/-- A ledger with rows, and the block that came in, boxed: since w. -/
structure AddB (w : World) (lb rb : Nat) (V : Nat → Value) (S : Nat → Prop) (L : List En) (q a n g : Nat) (w' : World) : Prop where
  r : LedR w' lb rb V S L
  x : BoxB w q a n g w'
  nq : ¬ S q
theorem AddB.grew {w w' w2 : World} {lb rb : Nat} {V : Nat → Value} {S : Nat → Prop} {L : List En} {q a n g : Nat} (h : AddB w lb rb V S L q a n g w') (hb : Below w'.heap.size w' w2) : AddB w lb rb V S L q a n g w2 := ⟨h.r.below hb, h.x.grew hb, h.nq⟩
theorem AddB.drew {w w' : World} {lb rb : Nat} {V : Nat → Value} {S : Nat → Prop} {L : List En} {q a n g : Nat} (h : AddB w lb rb V S L q a n g w') : AddB w lb rb V S L q a n g w'.drew := h.grew (Below.refl _ w').drew
theorem AddB.drewN {w w' : World} {lb rb : Nat} {V : Nat → Value} {S : Nat → Prop} {L : List En} {q a n g : Nat} (h : AddB w lb rb V S L q a n g w') (k : Nat) : AddB w lb rb V S L q a n g (w'.drewN k) := h.grew (below_drewN (Below.refl _ w') k)
def mkRows : Array Value := madeCells #[.slice none 0 0] 1024
theorem mk_get {j : Nat} (hj : j < 1024) : mkRows[j]? = some (.slice none 0 0) := by
  simp [mkRows, madeCells, hj, Nat.mod_one]
theorem run_mkRows (w : World) : (Instr.makeSlice 25 (.int .i64 1024) (.int .i64 1024)).run Try.prog w = .ok (.slice (some ⟨w.heap.size, 0, none⟩) 1024 1024) (w.alloc (.cells mkRows 52)) := by
  have hi : (Try.prog.info? 52).map (fun i => (i.zero, i.size, i.bytes)) = some (some (.slice none 0 0), 1, 24) := by kernel_rfl
  obtain ⟨i0, h1, h2, h3, h4⟩ := info_parts hi
  have := run_make (P := Try.prog) (w := w) 25 52 i0 _ Try.underlying25 h1 h2 .i64 .i64 1024 1024 (by decide) (by decide) (by rw [h4]; decide) (by decide)
  rw [h3] at this
  exact this
theorem Upd.weak {S T : Nat → Prop} {w w' : World} (h : Upd T w w') (hs : ∀ k, k < w.heap.size → T k → S k) : Upd S w w' := ⟨h.os, h.tape, h.output, h.size, fun k hk hn => h.block k hk fun t => hn (hs k hk t)⟩
set_option maxRecDepth 100000 in
set_option maxHeartbeats 4000000 in
theorem Add_row (w : World) {lb rb : Nat} {V : Nat → Value} {S : Nat → Prop} {L : List En} {a n g : Nat} (h : LedR w lb rb V S L) (ha : U64B a) (hn : U64B n) (hg : U64B g) :
    Calls Try.prog 11 #[ptrV lb 0, blkV a n g] w fun r w' => r = .returned (.int .i64 ((addE L a n g).1 : Int)) ∧ Led w' lb (Grown S w) (addE L a n g).2 ∧ Upd S w w' := by
  obtain ⟨q, hq⟩ : ∃ q, w.heap.size = q := ⟨_, rfl⟩
  obtain ⟨W0, hW⟩ : ∃ W0, w.alloc (.cells #[.int .u64 (a : Int), .int .u64 (n : Int), .int .u64 (g : Int)] 35) = W0 := ⟨_, rfl⟩
  have x0 := BoxB.start w a n g
  rw [hW, hq] at x0
  have st : AddB w lb rb V (fun k => S k ∧ k < w.heap.size) L q a n g W0 := ⟨(h.mono fun k hk hs => ⟨hs, hk⟩).below (by rw [← hW]; exact (Below.refl _ w).alloc (Nat.le_refl _) _), x0, fun hh => by omega⟩
  obtain ⟨S0, hS0⟩ : ∃ S0, S0 = fun k => S k ∧ k < w.heap.size := ⟨_, rfl⟩
  rw [← hS0] at st
  have GD := Lib.hid h.good
  have LST : Hid (∀ w' L', Led w' lb (Grown S0 w) L' → Led w' lb (Grown S w) L') := Lib.hid fun w' L' k => k.mono fun k _ hk => by rw [hS0] at hk; rcases hk with hk | hk; exact .inl hk.1; exact .inr hk
  have SS : Hid (∀ k, k < w.heap.size → S0 k → S k) := Lib.hid fun k _ hk => by rw [hS0] at hk; exact hk.1
  have ST := Lib.hid st
  obtain ⟨c0, c1, c2⟩ := st.x.c
  obtain ⟨t, ht⟩ : ∃ t : Nat, max n 1 = t := ⟨_, rfl⟩
  have HM := Lib.hid (fun w' => code_mayBe w' ha hn hg)
  have HT : Hid (∀ w', AddB w lb rb V S0 L q a n g w' → Calls Try.prog 27 #[.agg #[.int .u64 (a : Int), .int .u64 (n : Int), .int .u64 (g : Int)]] w' fun r w2 => r = .returned (.int .u64 (t : Int)) ∧ AddB w lb rb V S0 L q a n g w2) := Lib.hid fun w' k => by
    have := code_taken w' a n g
    rw [ht] at this
    exact this.mono fun r w2 h => ⟨h.1, k.grew h.2⟩
  have htb : U64B t := by unfold U64B at *; omega
  have HFr : Hid (∀ w', AddB w lb rb V S0 L q a n g w' → Calls Try.prog 23 #[ptrV lb 0, .int .u64 (a : Int), .int .u64 (t : Int)] w' fun r w2 => r = .returned (.bool (freeL L a t)) ∧ AddB w lb rb V S0 L q a n g w2) := Lib.hid fun w' k =>
    (Free_any w' (.inr ⟨rb, V, k.r⟩) ha htb).mono fun r w2 h => ⟨h.1, k.grew h.2⟩
  have TT := Lib.hid ht
  obtain ⟨m, hm⟩ : ∃ m, mayE a n g = m := ⟨_, rfl⟩
  have MM := Lib.hid hm
  rw [hm] at HM
  have EN := fun (w : World) => Lib.run_eql_slice_nil (P := Try.prog) w 25 52 (some ⟨rb, 0, none⟩) 1024 1024 0 0 Try.underlying25
  have WQ := Lib.hid hq
  have WW := Lib.hid hW
  clear h st x0 ha hn hg hm ht htb hS0
  unfold blkV at HM ⊢
  go_enter Try.func11, Try.ntmps11
  go_wp2_with fail
  refine (HM.out _).mono ?_
  rintro r w1 ⟨rfl, hb1⟩
  have ST1 := Lib.hid (ST.out.grew hb1)
  clear hb1 ST
  have ST := ST1
  clear ST1 hq hW
  obtain ⟨c0, c1, c2⟩ := ST.out.x.c
  cases m
  · have FIN := Lib.hid (show addE L a n g = (2, L) by unfold addE; rw [MM.out]; rfl)
    go_wp2_with fail
    go_ret
    exact ⟨by rw [FIN.out]; rfl, by rw [FIN.out]; exact LST.out _ _ (Led.grown (.inr ⟨rb, V, ST.out.r⟩)), (updFalse_of (by first | exact ST.out.x.below | (rw [WQ.out]; exact ST.out.x.below))).mono fun _ h => h.elim⟩
  go_wp2_with fail
  go_region_held3 (fun w' => w'.cell? ⟨q, 0, none⟩ = some (.int .u64 (a : Int)) ∧ w'.cell? ⟨q, 1, none⟩ = some (.int .u64 (n : Int)) ∧ w'.cell? ⟨q, 2, none⟩ = some (.int .u64 (g : Int))) (first | go_keep | exact ⟨c0, c1, c2⟩)
    (first
      | (go_at_call 27; (first | (with_reducible refine (HT.out _ (ST.out.drewN _)).mono ?_) | (with_reducible refine (HT.out _ ST.out.drew).mono ?_) | (with_reducible refine (HT.out _ ST.out).mono ?_)); rintro r w5 ⟨rfl, hst⟩; obtain ⟨c0, c1, c2⟩ := hst.x.c; have ST := Lib.hid hst; clear hst)
      | (go_at_call 23; (first | (with_reducible refine (HFr.out _ (ST.out.drewN _)).mono ?_) | (with_reducible refine (HFr.out _ ST.out.drew).mono ?_) | (with_reducible refine (HFr.out _ ST.out).mono ?_)); rintro r w5 ⟨rfl, hst⟩; obtain ⟨c0, c1, c2⟩ := hst.x.c; have ST := Lib.hid hst; clear hst))
  have FR : Hid (freeL L a t = !metL L a t) := Lib.hid (by
    have := may_end MM.out
    rw [TT.out] at this
    have h0 : t ≠ 0 := by have := TT.out; omega
    simp [freeL, h0]; omega)
  obtain ⟨z, hz⟩ : ∃ z, freeL L a t = z := ⟨_, rfl⟩
  rw [hz]
  have ZZ := Lib.hid hz
  clear hz
  cases z
  · have FIN := Lib.hid (show addE L a n g = (6, L) by
      have := FR.out
      rw [ZZ.out] at this
      have hmt : metL L a (max n 1) = true := by rw [TT.out]; cases hh : metL L a t with | true => rfl | false => rw [hh] at this; cases this
      unfold addE; rw [MM.out, if_pos rfl, if_pos hmt])
    go_wp2_with fail
    go_ret
    exact ⟨by rw [FIN.out]; rfl, by rw [FIN.out]; exact LST.out _ _ (Led.grown (.inr ⟨rb, V, ST.out.r⟩)), (updFalse_of (by first | exact ST.out.x.below | (rw [WQ.out]; exact ST.out.x.below))).mono fun _ h => h.elim⟩
  have MT : Hid (metL L a (max n 1) = false) := Lib.hid (by
    have := FR.out
    rw [ZZ.out] at this
    rw [TT.out]; cases hh : metL L a t with | false => rfl | true => rw [hh] at this; cases this)
  have E := Lib.hid (show addE L a n g = (0, insE L ⟨a, n, g, false⟩) by unfold addE; rw [MM.out, if_pos rfl, if_neg (by rw [MT.out]; decide)])
  have lc := ST.out.r.lc
  obtain ⟨s, hs⟩ : ∃ s, a / 1024 = s := ⟨_, rfl⟩
  have hs1 : s < 1024 := by have := may_end MM.out; omega
  obtain ⟨av, cv, ev, _, _⟩ := (ST.out.r.row s hs1).slice'
  obtain ⟨nv, hnv⟩ : ∃ nv, (rowOf L s).length = nv := ⟨_, rfl⟩
  rw [hnv] at ev
  have rc := ST.out.r.cell s hs1
  rw [ev] at rc
  obtain ⟨i, hi⟩ : ∃ i, aheadL (rowOf L s) a = i := ⟨_, rfl⟩
  obtain ⟨bg, hbg⟩ : ∃ bg, beginsL (rowOf L s) a = bg := ⟨_, rfl⟩
  have HF : Hid (∀ w', AddB w lb rb V S0 L q a n g w' → Calls Try.prog 28 #[.slice av nv cv, .int .u64 (a : Int)] w' fun r w2 => r = .returned (.tuple #[.int .i64 (i : Int), .bool bg]) ∧ AddB w lb rb V S0 L q a n g w2) := Lib.hid fun w' k' => by
    have hr := (k'.r.row s hs1).seq
    rw [ev] at hr
    have h1 := code_find w' (x := a) hr (k'.r.good.row s).rise (by have := k'.r.good.row_len s; omega)
    rw [hi, hbg] at h1
    exact h1.mono fun r w2 g => ⟨g.1, k'.grew g.2⟩
  have HI : Hid (∀ w' p, AddB w lb rb V S0 L q a n g w' → p = w'.heap.size → Calls Try.prog 29 #[.slice av nv cv, .int .i64 (i : Int), .slice (some ⟨p, 0, none⟩) 1 1] (w'.alloc (.cells #[.int .u64 (a : Int), .int .u64 (n : Int), .int .u64 (g : Int), .bool false] 54)) fun r w2 =>
      ∃ a' m' c', ∃ v', v' = Value.slice a' m' c' ∧ r = .returned (.slice a' m' c') ∧ w2.cell? ⟨rb, s, none⟩ = some (.slice av nv cv) ∧ w2.frozen? ⟨rb, s, none⟩ = false ∧ ∃ V', LedR (w2.setCell ⟨rb, s, none⟩ v') lb rb V' (Grown S0 w) (insE L ⟨a, n, g, false⟩) ∧ Upd S0 w (w2.setCell ⟨rb, s, none⟩ v')) := Lib.hid fun w' p k' hp => by
    subst hp
    have hbl := (Below.refl w'.heap.size w').alloc (Nat.le_refl _) (.cells #[.int .u64 (a : Int), .int .u64 (n : Int), .int .u64 (g : Int), .bool false] 54)
    have k2 := k'.grew hbl
    have hr := k2.r.row s hs1
    have h1 := insert_any (e := ⟨a, n, g, false⟩) (vb := w'.heap.size) _ hr (ahead_le (rowOf L s) a) (by have := k'.r.good.row_len s; omega) (Blk.new w' _ _) (fun hh => by have := (k'.r.row s hs1).lt hh; exact Nat.lt_irrefl _ this)
    rw [ev, hi] at h1
    refine h1.mono ?_
    rintro r w2 ⟨v', rfl, g1, g2, g3⟩
    rw [← ev] at g2 g3
    have er := row_ins_same GD.out ⟨a, n, g, false⟩
    rw [show (En.mk a n g false).a / 1024 = s from hs, show (En.mk a n g false).a = a from rfl, hi] at er
    have gi := GD.out.ins (b := ⟨a, n, g, false⟩) MM.out MT.out
    obtain ⟨p1, p2⟩ := k2.r.put hs1 g2 gi (by rw [er]; exact g1) g3 (fun t ht => row_ins_other GD.out _ (by show t ≠ a / 1024; rw [hs]; exact ht))
    have nr : ¬ In (V s) rb := fun hh => (k'.r.own s _ hs1 hh).2.2 rfl
    obtain ⟨a', c', ev', _⟩ := g1.slice'
    refine ⟨a', _, c', v', ev', by rw [ev'], by rw [← ev]; exact cell_upd (k2.r.cell s hs1) g2 nr, fz_upd (k2.r.fz s hs1) k2.r.ltr g2 nr, _, p1.mono fun k hk hk' => ?_, ?_⟩
    · rcases hk' with hk' | hk'
      · exact .inl hk'
      · exact .inr (Nat.le_trans k2.x.below.size hk')
    · exact ((updFalse_of k2.x.below).mono fun _ h => h.elim).step p2 fun k hk => .inl hk
  have HI2 : Hid (∀ w' p, AddB w lb rb V S0 L q a n g w' → p = w'.heap.size → Calls Try.prog 29 #[.slice av nv cv, .int .i64 (i : Int), .slice (some ⟨p, 0, none⟩) 1 1] ((w'.alloc (.cells #[.int .u64 (a : Int), .int .u64 (n : Int), .int .u64 (g : Int), .bool false] 54)).drew) fun r w2 =>
      ∃ a' m' c', ∃ v', v' = Value.slice a' m' c' ∧ r = .returned (.slice a' m' c') ∧ w2.cell? ⟨rb, s, none⟩ = some (.slice av nv cv) ∧ w2.frozen? ⟨rb, s, none⟩ = false ∧ ∃ V', LedR (w2.setCell ⟨rb, s, none⟩ v') lb rb V' (Grown S0 w) (insE L ⟨a, n, g, false⟩) ∧ Upd S0 w (w2.setCell ⟨rb, s, none⟩ v')) := Lib.hid fun w' p k' hp => HI.out w'.drew p k'.drew hp
  have KK : Hid (∀ w', AddB w lb rb V S0 L q a n g w' → w'.cell? ⟨rb, s, none⟩ = some (.slice av nv cv)) := Lib.hid fun w' k' => by rw [← ev]; exact k'.r.cell s hs1
  have d1 : (a : Int) / 1024 = (s : Int) := by omega
  have d2 : Int.tdiv (a : Int) 1024 = (s : Int) := by rw [← hs]; exact (Int.ofNat_tdiv _ _).symm
  have r1 : (s : Int) < 1024 := by omega
  have r2 : (0 : Int) ≤ (s : Int) := by omega
  clear hs hi hbg ev hnv
  go_wp2
  go_quiet (fail)
  go_wp2
  go_region_held3 (fun w' => w'.cell? ⟨rb, s, none⟩ = some (.slice av nv cv) ∧ w'.cell? ⟨q, 0, none⟩ = some (.int .u64 (a : Int))) (first | go_keep | exact ⟨rc, c0⟩)
    (first
      | (go_at_call 28; (first | (with_reducible refine (HF.out _ (ST.out.drewN _)).mono ?_) | (with_reducible refine (HF.out _ ST.out.drew).mono ?_) | (with_reducible refine (HF.out _ ST.out).mono ?_)); rintro r w6 ⟨rfl, hst⟩; have rc := KK.out _ hst; obtain ⟨c0, c1, c2⟩ := hst.x.c; have ST := Lib.hid hst; clear hst))
  have rcA : ∀ ob, (w6.alloc ob).cell? ⟨rb, s, none⟩ = some (.slice av nv cv) := fun ob => cell_later (w := w6) rc (Nat.le_refl _) ((Below.refl _ _).alloc (Nat.le_refl _) ob)
  have c0A : ∀ ob, (w6.alloc ob).cell? ⟨q, 0, none⟩ = some (.int .u64 (a : Int)) := fun ob => cell_later (w := w6) c0 (Nat.le_refl _) ((Below.refl _ _).alloc (Nat.le_refl _) ob)
  have c1A : ∀ ob, (w6.alloc ob).cell? ⟨q, 1, none⟩ = some (.int .u64 (n : Int)) := fun ob => cell_later (w := w6) c1 (Nat.le_refl _) ((Below.refl _ _).alloc (Nat.le_refl _) ob)
  have c2A : ∀ ob, (w6.alloc ob).cell? ⟨q, 2, none⟩ = some (.int .u64 (g : Int)) := fun ob => cell_later (w := w6) c2 (Nat.le_refl _) ((Below.refl _ _).alloc (Nat.le_refl _) ob)
  clear HF HFr HT HM KK EN
  go_wp2
  go_region_law (refine step_call15 rfl 29 #[.slice av nv cv, .int .i64 (i : Int), .slice (some ⟨w6.heap.size, 0, none⟩) 1 1] (by go_simp) (HI2.out _ _ ST.out rfl) ?_; rintro r w7 ⟨a', m', c', v', ev', rfl, k1, k2, V', k3, k4⟩; subst ev'; have K3 := Lib.hid k3; have K4 := Lib.hid k4; clear k3 k4; refine ⟨_, rfl, ?_⟩)
  all_goals go_wp2
  all_goals go_ret
  all_goals exact ⟨by rw [E.out]; rfl, by rw [E.out]; exact LST.out _ _ (.inr ⟨rb, V', K3.out⟩), K4.out.weak SS.out⟩
end Go.Proofs.Ytclmdjkihijciaa
