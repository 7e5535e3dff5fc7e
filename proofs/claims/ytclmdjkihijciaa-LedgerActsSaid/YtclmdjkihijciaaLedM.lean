/- The landed ledger: Add where there are no rows yet. -/
import Derived.Test.YtclmdjkihijciaaLedL
namespace Go.Proofs.Ytclmdjkihijciaa
open Go.RowKit LedMath
set_option linter.unusedVariables false

/-- A ledger that has no rows yet, and the block that came in, boxed: since w. -/
structure AddN (w : World) (lb : Nat) (S : Nat → Prop) (q a n g : Nat) (w' : World) : Prop where
  r : LedN w' lb S
  x : BoxB w q a n g w'
  nq : ¬ S q
theorem AddN.grew {w w' w2 : World} {lb : Nat} {S : Nat → Prop} {q a n g : Nat} (h : AddN w lb S q a n g w') (hb : Below w'.heap.size w' w2) : AddN w lb S q a n g w2 := ⟨h.r.upd (updFalse_of hb) fun _ _ => id, h.x.grew hb, h.nq⟩
theorem AddN.drew {w w' : World} {lb : Nat} {S : Nat → Prop} {q a n g : Nat} (h : AddN w lb S q a n g w') : AddN w lb S q a n g w'.drew := h.grew (Below.refl _ w').drew
theorem AddN.drewN {w w' : World} {lb : Nat} {S : Nat → Prop} {q a n g : Nat} (h : AddN w lb S q a n g w') (k : Nat) : AddN w lb S q a n g (w'.drewN k) := h.grew (below_drewN (Below.refl _ w') k)
set_option maxRecDepth 100000 in
set_option maxHeartbeats 4000000 in
theorem Add_nil (w : World) {lb : Nat} {S : Nat → Prop} {L : List En} {a n g : Nat} (h : LedN w lb S) (hL : L = []) (ha : U64B a) (hn : U64B n) (hg : U64B g) :
    Calls Try.prog 11 #[ptrV lb 0, blkV a n g] w fun r w' => r = .returned (.int .i64 ((addE L a n g).1 : Int)) ∧ Led w' lb (Grown S w) (addE L a n g).2 ∧ Upd S w w' := by
  obtain ⟨q, hq⟩ : ∃ q, w.heap.size = q := ⟨_, rfl⟩
  obtain ⟨W0, hW⟩ : ∃ W0, w.alloc (.cells #[.int .u64 (a : Int), .int .u64 (n : Int), .int .u64 (g : Int)] 35) = W0 := ⟨_, rfl⟩
  have x0 := BoxB.start w a n g
  rw [hW, hq] at x0
  have st : AddN w lb (fun k => S k ∧ k < w.heap.size) q a n g W0 := ⟨LedN.upd (S := fun k => S k ∧ k < w.heap.size) ⟨h.ltl, ⟨h.sl, h.ltl⟩, h.lc, h.lf⟩ (updFalse_of (by rw [← hW]; exact (Below.refl _ w).alloc (Nat.le_refl _) _)) fun _ _ => id, x0, fun hh => by omega⟩
  obtain ⟨S0, hS0⟩ : ∃ S0, S0 = fun k => S k ∧ k < w.heap.size := ⟨_, rfl⟩
  rw [← hS0] at st
  have GD := Lib.hid (show GoodL L by rw [hL]; exact GoodL.nil)
  have HL := Lib.hid hL
  have hlw := h.ltl
  have LST : Hid (∀ w' L', Led w' lb (Grown S0 w) L' → Led w' lb (Grown S w) L') := Lib.hid fun w' L' k => k.mono fun k _ hk => by rw [hS0] at hk; rcases hk with hk | hk; exact .inl hk.1; exact .inr hk
  have SS : Hid (∀ k, k < w.heap.size → S0 k → S k) := Lib.hid fun k _ hk => by rw [hS0] at hk; exact hk.1
  have ST := Lib.hid st
  obtain ⟨c0, c1, c2⟩ := st.x.c
  obtain ⟨t, ht⟩ : ∃ t : Nat, max n 1 = t := ⟨_, rfl⟩
  have HM := Lib.hid (fun w' => code_mayBe w' ha hn hg)
  have HT : Hid (∀ w', AddN w lb S0 q a n g w' → Calls Try.prog 27 #[.agg #[.int .u64 (a : Int), .int .u64 (n : Int), .int .u64 (g : Int)]] w' fun r w2 => r = .returned (.int .u64 (t : Int)) ∧ AddN w lb S0 q a n g w2) := Lib.hid fun w' k => by
    have := code_taken w' a n g
    rw [ht] at this
    exact this.mono fun r w2 h => ⟨h.1, k.grew h.2⟩
  have htb : U64B t := by unfold U64B at *; omega
  have HFr : Hid (∀ w', AddN w lb S0 q a n g w' → Calls Try.prog 23 #[ptrV lb 0, .int .u64 (a : Int), .int .u64 (t : Int)] w' fun r w2 => r = .returned (.bool (freeL L a t)) ∧ AddN w lb S0 q a n g w2) := Lib.hid fun w' k =>
    (Free_any w' (.inl ⟨k.r, HL.out⟩) ha htb).mono fun r w2 h => ⟨h.1, k.grew h.2⟩
  have TT := Lib.hid ht
  obtain ⟨m, hm⟩ : ∃ m, mayE a n g = m := ⟨_, rfl⟩
  have MM := Lib.hid hm
  rw [hm] at HM
  have EN := fun (w : World) => Lib.run_eql_slice_nil (P := Try.prog) w 25 52 none 0 0 0 0 Try.underlying25
  have WQ := Lib.hid hq
  have WW := Lib.hid hW
  clear h st x0 ha hn hg hm ht htb hS0 hL
  unfold blkV at HM ⊢
  go_enter Try.func11, Try.ntmps11
  go_wp2_with fail
  refine (HM.out _).mono ?_
  rintro r w1 ⟨rfl, hb1⟩
  have ST1 := Lib.hid (ST.out.grew hb1)
  clear hb1 ST
  have ST := ST1
  clear ST1 hq hW
  obtain ⟨c0, c1, c2⟩ := ST.out.x.c
  cases m
  · have FIN := Lib.hid (show addE L a n g = (2, L) by unfold addE; rw [MM.out]; rfl)
    go_wp2_with fail
    go_ret
    exact ⟨by rw [FIN.out]; rfl, by rw [FIN.out]; exact LST.out _ _ (Led.grown (.inl ⟨ST.out.r, HL.out⟩)), (updFalse_of (by first | exact ST.out.x.below | (rw [WQ.out]; exact ST.out.x.below))).mono fun _ h => h.elim⟩
  go_wp2_with fail
  go_region_held3 (fun w' => w'.cell? ⟨q, 0, none⟩ = some (.int .u64 (a : Int)) ∧ w'.cell? ⟨q, 1, none⟩ = some (.int .u64 (n : Int)) ∧ w'.cell? ⟨q, 2, none⟩ = some (.int .u64 (g : Int))) (first | go_keep | exact ⟨c0, c1, c2⟩)
    (first
      | (go_at_call 27; (first | (with_reducible refine (HT.out _ (ST.out.drewN _)).mono ?_) | (with_reducible refine (HT.out _ ST.out.drew).mono ?_) | (with_reducible refine (HT.out _ ST.out).mono ?_)); rintro r w5 ⟨rfl, hst⟩; obtain ⟨c0, c1, c2⟩ := hst.x.c; have ST := Lib.hid hst; clear hst)
      | (go_at_call 23; (first | (with_reducible refine (HFr.out _ (ST.out.drewN _)).mono ?_) | (with_reducible refine (HFr.out _ ST.out.drew).mono ?_) | (with_reducible refine (HFr.out _ ST.out).mono ?_)); rintro r w5 ⟨rfl, hst⟩; obtain ⟨c0, c1, c2⟩ := hst.x.c; have ST := Lib.hid hst; clear hst))
  have FR : Hid (freeL L a t = !metL L a t) := Lib.hid (by
    have := may_end MM.out
    rw [TT.out] at this
    have h0 : t ≠ 0 := by have := TT.out; omega
    simp [freeL, h0]; omega)
  obtain ⟨z, hz⟩ : ∃ z, freeL L a t = z := ⟨_, rfl⟩
  rw [hz]
  have ZZ := Lib.hid hz
  clear hz
  cases z
  · have FIN := Lib.hid (show addE L a n g = (6, L) by
      have := FR.out
      rw [ZZ.out] at this
      have hmt : metL L a (max n 1) = true := by rw [TT.out]; cases hh : metL L a t with | true => rfl | false => rw [hh] at this; cases this
      unfold addE; rw [MM.out, if_pos rfl, if_pos hmt])
    go_wp2_with fail
    go_ret
    exact ⟨by rw [FIN.out]; rfl, by rw [FIN.out]; exact LST.out _ _ (Led.grown (.inl ⟨ST.out.r, HL.out⟩)), (updFalse_of (by first | exact ST.out.x.below | (rw [WQ.out]; exact ST.out.x.below))).mono fun _ h => h.elim⟩
  have MT : Hid (metL L a (max n 1) = false) := Lib.hid (by
    have := FR.out
    rw [ZZ.out] at this
    rw [TT.out]; cases hh : metL L a t with | false => rfl | true => rw [hh] at this; cases this)
  have E := Lib.hid (show addE L a n g = (0, insE L ⟨a, n, g, false⟩) by unfold addE; rw [MM.out, if_pos rfl, if_neg (by rw [MT.out]; decide)])
  have lc := ST.out.r.lc
  have lf := ST.out.r.lf
  have lcA : ∀ ob, (w5.alloc ob).cell? ⟨lb, 0, none⟩ = some (.slice none 0 0) := fun ob => cell_later lc (Nat.le_refl _) ((Below.refl _ _).alloc (Nat.le_refl _) ob)
  have lfA : ∀ ob, (w5.alloc ob).frozen? ⟨lb, 0, none⟩ = false := fun ob => fz_upd lf ST.out.r.ltl (updFalse_of ((Below.refl _ _).alloc (Nat.le_refl _) ob)) id
  have MK := run_mkRows w5
  go_wp2
  obtain ⟨W6, hW6⟩ : ∃ W6, (w5.alloc (.cells mkRows 52)).setCell ⟨lb, 0, none⟩ (.slice (some ⟨w5.heap.size, 0, none⟩) 1024 1024) = W6 := ⟨_, rfl⟩
  obtain ⟨rb, hrb⟩ : ∃ rb, w5.heap.size = rb := ⟨_, rfl⟩
  rw [hrb] at hW6
  obtain ⟨V, hV⟩ : ∃ V : Nat → Value, V = fun _ => .slice none 0 0 := ⟨_, rfl⟩
  obtain ⟨S1, hS1⟩ : ∃ S1 : Nat → Prop, S1 = fun k => S0 k ∨ k = rb := ⟨_, rfl⟩
  have hl := ST.out.r.ltl
  have hne : lb ≠ rb := by omega
  have hqw : w.heap.size ≤ w5.heap.size := by have := ST.out.x.below.size; first | exact this | (rw [WQ.out] at this ⊢; exact this)
  have st2 : AddB W6 lb rb V S1 L q a n g W6 ∧ Upd (fun k => S0 k ∨ w.heap.size ≤ k) w W6 := by
    have hbk := Blk.new w5 52 mkRows
    rw [hrb] at hbk
    have u1 : Upd (fun _ => False) w5 (w5.alloc (.cells mkRows 52)) := (Upd.refl _ w5).alloc _
    have u2 : Upd (fun k => k = lb) (w5.alloc (.cells mkRows 52)) W6 := by
      rw [← hW6]; exact Upd.setCell (S := fun k => k = lb) (Upd.refl _ _) (p := ⟨lb, 0, none⟩) (.inl rfl) _
    have hb2 := hbk.upd u2 (fun e => hne e.symm)
    have hqn : q ≠ lb := by have := WQ.out; omega
    have hql := ST.out.x.b.lt
    have us := u2.size
    rw [World.size_alloc] at us
    refine ⟨⟨⟨GD.out, by omega, by omega, hne, by rw [hS1]; exact .inl ST.out.r.sl, by rw [hS1]; exact .inr rfl, ?_, ?_, fun s hs => by rw [hb2.cell, mk_get hs, hV], fun s hs => hb2.frozen s, fun s hs => .inl ⟨by rw [hV], by rw [HL.out]; rfl⟩, fun s k hs hk => (by rw [hV] at hk; cases hk), fun s t k hs ht hk hk' => (by rw [hV] at hk; cases hk)⟩, ⟨(ST.out.x.b.upd u1 id).upd u2 hqn, Below.refl _ _⟩, fun hh => ?_⟩, ?_⟩
    · rw [← hW6]; exact World.cell?_setCell_same _ _ _ (lcA _)
    · rw [← hW6, World.frozen?_setCell]; exact lfA _
    · rw [hS1] at hh
      rcases hh with hh | hh
      · exact ST.out.nq hh
      · omega
    · refine (((updFalse_of (w := w) (w' := w5) (by first | exact ST.out.x.below | (rw [WQ.out]; exact ST.out.x.below))).mono fun _ h => h.elim).step u1 fun k hk => hk.elim).step u2 fun k hk => .inl (.inl (by rw [hk]; exact ST.out.r.sl))
  rw [hrb, hW6]
  have UW := Lib.hid (st2.2.weak (S := S) fun k hk hs => by
    rcases hs with hs | hs
    · exact SS.out k hk hs
    · omega)
  have hsz := UW.out.size
  have LST2 : Hid (∀ w' L', Led w' lb (Grown S1 W6) L' → Led w' lb (Grown S w) L') := Lib.hid fun w' L' k => k.mono fun k _ hk => by
    rcases hk with hk | hk
    · rw [hS1] at hk
      rcases hk with hk | hk
      · by_cases h0 : k < w.heap.size
        · exact .inl (SS.out k h0 hk)
        · exact .inr (by omega)
      · exact .inr (by omega)
    · exact .inr (by omega)
  have SS2 : Hid (∀ w', Upd S1 W6 w' → Upd S w w') := Lib.hid fun w' u => UW.out.step u fun k hk => by
    rw [hS1] at hk
    rcases hk with hk | hk
    · by_cases h0 : k < w.heap.size
      · exact .inl (SS.out k h0 hk)
      · exact .inr (by omega)
    · exact .inr (by omega)
  have ST2 := Lib.hid st2.1
  have nql : q < W6.heap.size := st2.1.x.b.lt
  have EN2 := EN
  clear ST LST SS HT HFr HM EN st2 lcA lfA lc lf MK hne hrb hV hS1 hW6
  have ST := ST2
  obtain ⟨c0, c1, c2⟩ := ST.out.x.c
  have lc := ST.out.r.lc
  obtain ⟨s, hs⟩ : ∃ s, a / 1024 = s := ⟨_, rfl⟩
  have hs1 : s < 1024 := by have := may_end MM.out; omega
  obtain ⟨av, cv, ev, _, _⟩ := (ST.out.r.row s hs1).slice'
  obtain ⟨nv, hnv⟩ : ∃ nv, (rowOf L s).length = nv := ⟨_, rfl⟩
  rw [hnv] at ev
  have rc := ST.out.r.cell s hs1
  rw [ev] at rc
  obtain ⟨i, hi⟩ : ∃ i, aheadL (rowOf L s) a = i := ⟨_, rfl⟩
  obtain ⟨bg, hbg⟩ : ∃ bg, beginsL (rowOf L s) a = bg := ⟨_, rfl⟩
  have HF : Hid (∀ w', AddB W6 lb rb V S1 L q a n g w' → Calls Try.prog 28 #[.slice av nv cv, .int .u64 (a : Int)] w' fun r w2 => r = .returned (.tuple #[.int .i64 (i : Int), .bool bg]) ∧ AddB W6 lb rb V S1 L q a n g w2) := Lib.hid fun w' k' => by
    have hr := (k'.r.row s hs1).seq
    rw [ev] at hr
    have h1 := code_find w' (x := a) hr (k'.r.good.row s).rise (by have := k'.r.good.row_len s; omega)
    rw [hi, hbg] at h1
    exact h1.mono fun r w2 g => ⟨g.1, k'.grew g.2⟩
  have HI : Hid (∀ w' p, AddB W6 lb rb V S1 L q a n g w' → p = w'.heap.size → Calls Try.prog 29 #[.slice av nv cv, .int .i64 (i : Int), .slice (some ⟨p, 0, none⟩) 1 1] (w'.alloc (.cells #[.int .u64 (a : Int), .int .u64 (n : Int), .int .u64 (g : Int), .bool false] 54)) fun r w2 =>
      ∃ a' m' c', ∃ v', v' = Value.slice a' m' c' ∧ r = .returned (.slice a' m' c') ∧ w2.cell? ⟨rb, s, none⟩ = some (.slice av nv cv) ∧ w2.frozen? ⟨rb, s, none⟩ = false ∧ ∃ V', LedR (w2.setCell ⟨rb, s, none⟩ v') lb rb V' (Grown S1 W6) (insE L ⟨a, n, g, false⟩) ∧ Upd S1 W6 (w2.setCell ⟨rb, s, none⟩ v')) := Lib.hid fun w' p k' hp => by
    subst hp
    have hbl := (Below.refl w'.heap.size w').alloc (Nat.le_refl _) (.cells #[.int .u64 (a : Int), .int .u64 (n : Int), .int .u64 (g : Int), .bool false] 54)
    have k2 := k'.grew hbl
    have hr := k2.r.row s hs1
    have h1 := insert_any (e := ⟨a, n, g, false⟩) (vb := w'.heap.size) _ hr (ahead_le (rowOf L s) a) (by have := k'.r.good.row_len s; omega) (Blk.new w' _ _) (fun hh => by have := (k'.r.row s hs1).lt hh; exact Nat.lt_irrefl _ this)
    rw [ev, hi] at h1
    refine h1.mono ?_
    rintro r w2 ⟨v', rfl, g1, g2, g3⟩
    rw [← ev] at g2 g3
    have er := row_ins_same GD.out ⟨a, n, g, false⟩
    rw [show (En.mk a n g false).a / 1024 = s from hs, show (En.mk a n g false).a = a from rfl, hi] at er
    have gi := GD.out.ins (b := ⟨a, n, g, false⟩) MM.out MT.out
    obtain ⟨p1, p2⟩ := k2.r.put hs1 g2 gi (by rw [er]; exact g1) g3 (fun t ht => row_ins_other GD.out _ (by show t ≠ a / 1024; rw [hs]; exact ht))
    have nr : ¬ In (V s) rb := fun hh => (k'.r.own s _ hs1 hh).2.2 rfl
    obtain ⟨a', c', ev', _⟩ := g1.slice'
    refine ⟨a', _, c', v', ev', by rw [ev'], by rw [← ev]; exact cell_upd (k2.r.cell s hs1) g2 nr, fz_upd (k2.r.fz s hs1) k2.r.ltr g2 nr, _, p1.mono fun k hk hk' => ?_, ?_⟩
    · rcases hk' with hk' | hk'
      · exact .inl hk'
      · exact .inr (Nat.le_trans k2.x.below.size hk')
    · exact ((updFalse_of k2.x.below).mono fun _ h => h.elim).step p2 fun k hk => .inl hk
  have HI2 : Hid (∀ w' p, AddB W6 lb rb V S1 L q a n g w' → p = w'.heap.size → Calls Try.prog 29 #[.slice av nv cv, .int .i64 (i : Int), .slice (some ⟨p, 0, none⟩) 1 1] ((w'.alloc (.cells #[.int .u64 (a : Int), .int .u64 (n : Int), .int .u64 (g : Int), .bool false] 54)).drew) fun r w2 =>
      ∃ a' m' c', ∃ v', v' = Value.slice a' m' c' ∧ r = .returned (.slice a' m' c') ∧ w2.cell? ⟨rb, s, none⟩ = some (.slice av nv cv) ∧ w2.frozen? ⟨rb, s, none⟩ = false ∧ ∃ V', LedR (w2.setCell ⟨rb, s, none⟩ v') lb rb V' (Grown S1 W6) (insE L ⟨a, n, g, false⟩) ∧ Upd S1 W6 (w2.setCell ⟨rb, s, none⟩ v')) := Lib.hid fun w' p k' hp => HI.out w'.drew p k'.drew hp
  have KK : Hid (∀ w', AddB W6 lb rb V S1 L q a n g w' → w'.cell? ⟨rb, s, none⟩ = some (.slice av nv cv)) := Lib.hid fun w' k' => by rw [← ev]; exact k'.r.cell s hs1
  have d1 : (a : Int) / 1024 = (s : Int) := by omega
  have d2 : Int.tdiv (a : Int) 1024 = (s : Int) := by rw [← hs]; exact (Int.ofNat_tdiv _ _).symm
  have r1 : (s : Int) < 1024 := by omega
  have r2 : (0 : Int) ≤ (s : Int) := by omega
  clear hs hi hbg ev hnv
  go_quiet (fail)
  go_wp2
  go_region_held3 (fun w' => w'.cell? ⟨rb, s, none⟩ = some (.slice av nv cv) ∧ w'.cell? ⟨q, 0, none⟩ = some (.int .u64 (a : Int))) (first | go_keep | exact ⟨rc, c0⟩)
    (first
      | (go_at_call 28; (first | (with_reducible refine (HF.out _ (ST.out.drewN _)).mono ?_) | (with_reducible refine (HF.out _ ST.out.drew).mono ?_) | (with_reducible refine (HF.out _ ST.out).mono ?_)); rintro r w6 ⟨rfl, hst⟩; have rc := KK.out _ hst; obtain ⟨c0, c1, c2⟩ := hst.x.c; have ST := Lib.hid hst; clear hst))
  have rcA : ∀ ob, (w6.alloc ob).cell? ⟨rb, s, none⟩ = some (.slice av nv cv) := fun ob => cell_later (w := w6) rc (Nat.le_refl _) ((Below.refl _ _).alloc (Nat.le_refl _) ob)
  have c0A : ∀ ob, (w6.alloc ob).cell? ⟨q, 0, none⟩ = some (.int .u64 (a : Int)) := fun ob => cell_later (w := w6) c0 (Nat.le_refl _) ((Below.refl _ _).alloc (Nat.le_refl _) ob)
  have c1A : ∀ ob, (w6.alloc ob).cell? ⟨q, 1, none⟩ = some (.int .u64 (n : Int)) := fun ob => cell_later (w := w6) c1 (Nat.le_refl _) ((Below.refl _ _).alloc (Nat.le_refl _) ob)
  have c2A : ∀ ob, (w6.alloc ob).cell? ⟨q, 2, none⟩ = some (.int .u64 (g : Int)) := fun ob => cell_later (w := w6) c2 (Nat.le_refl _) ((Below.refl _ _).alloc (Nat.le_refl _) ob)
  clear HF KK
  go_wp2
  go_region_law (refine step_call15 rfl 29 #[.slice av nv cv, .int .i64 (i : Int), .slice (some ⟨w6.heap.size, 0, none⟩) 1 1] (by go_simp) (HI2.out _ _ ST.out rfl) ?_; rintro r w7 ⟨a', m', c', v', ev', rfl, k1, k2, V', k3, k4⟩; subst ev'; have K3 := Lib.hid k3; have K4 := Lib.hid k4; clear k3 k4; refine ⟨_, rfl, ?_⟩)
  all_goals go_wp2
  all_goals go_ret
  all_goals exact ⟨by rw [E.out]; rfl, by rw [E.out]; exact LST2.out _ _ (.inr ⟨rb, V', K3.out⟩), SS2.out _ K4.out⟩

/-- Add. -/
theorem Add_any (w : World) {lb : Nat} {S : Nat → Prop} {L : List En} {a n g : Nat} (h : Led w lb S L) (ha : U64B a) (hn : U64B n) (hg : U64B g) :
    Calls Try.prog 11 #[ptrV lb 0, blkV a n g] w fun r w' => r = .returned (.int .i64 ((addE L a n g).1 : Int)) ∧ Led w' lb (Grown S w) (addE L a n g).2 ∧ Upd S w w' := by
  rcases h with ⟨h, e⟩ | ⟨rb, V, h⟩
  · exact Add_nil w h e ha hn hg
  · exact Add_row w h ha hn hg
end Go.Proofs.Ytclmdjkihijciaa
