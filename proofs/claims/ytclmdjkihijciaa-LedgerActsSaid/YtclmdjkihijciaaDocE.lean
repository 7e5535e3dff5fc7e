/- The document's ledger: Drop. -/
import Derived.Test.YtclmdjkihijciaaDocD
import Derived.Deep.CutBlock
import Derived.Deep.DeepCutAuto
namespace Go.Proofs.Ytclmdjkihijciaa
open Go.RowKit LedMath
set_option linter.unusedVariables false

theorem newAt15 {α : Type} {E : Elem α} (w : World) (t : TypeId) (g : Nat) (hg : g = w.heap.size) : Vec E (w.alloc (.cells #[] t)) (.slice (some ⟨g, 0, none⟩) 0 0) [] := by subst hg; exact Vec.new w t
theorem in_at15 {g n c k : Nat} (h : In (.slice (some ⟨g, 0, none⟩) n c) k) : g = k := by injection h
theorem below_in15 {B : Nat} {a w w' : World} {v : Value} (hb : Below B a w) (hs : B ≤ w.heap.size) (hin : ∀ k, In v k → B ≤ k) (u : Upd (In v) w w') : Below B a w' := hb.trans (u.below hin hs)
theorem sizeBk : ∀ w, (sizeOf (Try.prog.elem 29)).run Try.prog w = .ok Elem.blks.size w := fun w => by kernel_rfl
theorem sizeBo : ∀ w, (sizeOf (Try.prog.elem 30)).run Try.prog w = .ok Elem.bools.size w := fun w => by kernel_rfl
theorem infoBo : (Try.prog.info? 4).map (fun i => (i.zero, i.size, i.bytes)) = some (some (.bool false), 1, 1) := by kernel_rfl
/-- Behind the first half of a drop. -/
structure MidD (w : World) (mb : Nat) (v2 : Value) (B : List (Nat × Nat × Nat)) (H : List Bool) (wx : World) : Prop where
  p : ∃ v1, Blk wx mb 32 #[v1, v2] ∧ Vec Elem.blks wx v1 B ∧ ∀ k, In v1 k → w.heap.size ≤ k
  h : Vec Elem.bools wx v2 H
  u : Upd (fun k => k = mb) w wx
theorem MidD.of {w1 x2 : World} {mb : Nat} {v v2 v' : Value} {L1 L2 : List (Nat × Nat × Nat)} {F : List Bool} (K : Blk x2 mb 32 #[v, v2]) (hm : mb < w1.heap.size) (V : Vec Elem.blks x2 v' ([] ++ L1 ++ L2)) (N : ∀ k, In v' k → w1.heap.size ≤ k) (V2 : Vec Elem.bools w1 v2 F) (J : ∀ k, In v2 k → k ≠ mb) (B : Below w1.heap.size w1 x2) : MidD w1 mb v2 (L1 ++ L2) F (x2.setCell ⟨mb, 0, none⟩ v') := by
  have u : Upd (fun k => k = mb) x2 (x2.setCell ⟨mb, 0, none⟩ v') := (Upd.refl (fun k => k = mb) x2).setCell (p := ⟨mb, 0, none⟩) (.inl rfl) _
  have ub := (updFalse_of B)
  refine ⟨⟨v', K.put 0 v', ?_, N⟩, (V2.upd ub fun _ _ => id).upd u J, (ub.mono fun _ h => h.elim).trans u⟩
  rw [List.nil_append] at V
  exact V.upd u fun k hk hh => by have := N k hk; omega
theorem MidD.done {w w1 wc x2 : World} {mb : Nat} {v2 v' : Value} {T : Nat → Prop} {L M : List En} {B : List (Nat × Nat × Nat)} {F L1 L2 : List Bool} (g : GoodL M) (tm : T mb) (hm : mb < w1.heap.size) (bw : Below w.heap.size w w1) (h : MidD w1 mb v2 B F wc) (eB : M.map En.b = B) (eF : M.map En.h = L1 ++ L2) (V : Vec Elem.bools x2 v' ([] ++ L1 ++ L2)) (N : ∀ k, In v' k → wc.heap.size ≤ k) (bx : Below wc.heap.size wc x2) :
    DL (x2.setCell ⟨mb, 1, none⟩ v') mb (fun k => T k ∨ w.heap.size ≤ k) M ∧ Upd T w (x2.setCell ⟨mb, 1, none⟩ v') := by
  obtain ⟨⟨v1, k1, k2, k3⟩, h2, h3⟩ := h
  have u : Upd (fun k => k = mb) x2 (x2.setCell ⟨mb, 1, none⟩ v') := (Upd.refl (fun k => k = mb) x2).setCell (p := ⟨mb, 1, none⟩) (.inl rfl) _
  have ub := updFalse_of bx
  have hs := bw.size
  have hs1 := h3.size
  rw [List.nil_append] at V
  refine ⟨⟨g, .inl tm, v1, v', (k1.upd ub fun h => h).put 1 v', ?_, ?_, fun k hk => ⟨.inr (Nat.le_trans hs (k3 k hk)), fun hh => by have := k3 k hk; omega⟩, fun k hk => ⟨.inr (by have := N k hk; omega), fun hh => by have := N k hk; omega, fun hh => by have := N k hk; have := k2.lt hh; omega⟩⟩, ?_⟩
  · rw [eB]
    exact (k2.upd ub fun _ _ => id).upd u fun k hk hh => by have := k3 k hk; omega
  · rw [eF]
    exact V.upd u fun k hk hh => by have := N k hk; omega
  · have a1 : Upd T w w1 := (updFalse_of bw).mono fun _ h => h.elim
    have a2 : Upd T w1 wc := h3.mono fun k hk => by subst hk; exact tm
    have a3 : Upd T wc x2 := ub.mono fun _ h => h.elim
    have a4 : Upd T x2 (x2.setCell ⟨mb, 1, none⟩ v') := u.mono fun k hk => by subst hk; exact tm
    exact ((a1.trans a2).trans a3).trans a4
set_option maxRecDepth 100000 in
set_option maxHeartbeats 4000000 in
theorem doc_Drop (w : World) {mb x : Nat} {T : Nat → Prop} {M : List En} (h : DL w mb T M) : Calls Try.prog 16 #[ptrV mb 0, .int .u64 (x : Int)] w fun r w' => r = .returned (.int .i64 ((drop1 M x).1 : Int)) ∧ DL w' mb (fun k => T k ∨ w.heap.size ≤ k) (drop1 M x).2 ∧ Upd T w w' := by
  have H1 := Lib.hid (doc_at w (x := x) h)
  have H := Lib.hid h
  clear h
  go_enter Try.func16, Try.ntmps16
  go_wp2_with fail
  refine H1.out.mono ?_
  rintro r w1 ⟨hb, hr⟩
  have D1 := Lib.hid (H.out.below hb)
  have BW := Lib.hid hb
  clear hb
  rcases hr with ⟨rfl, hn⟩ | ⟨i, e, rfl, hi, he⟩
  · have E := Lib.hid (show drop1 M x = (5, M) by unfold drop1; rw [hn])
    clear hn
    go_wp2_with fail
    go_ret
    exact ⟨by rw [E.out]; rfl, by rw [E.out]; exact D1.out.mono fun k _ hk => .inl hk, (updFalse_of BW.out).mono fun _ h => h.elim⟩
  · have E := Lib.hid (show drop1 M x = (0, M.take i ++ M.drop (i + 1)) by unfold drop1; rw [he, ← (atL_some he).2, strike_rise D1.out.good.rise hi])
    have GD := Lib.hid (show GoodL (M.take i ++ M.drop (i + 1)) by rw [← strike_rise D1.out.good.rise hi]; exact D1.out.good.drop _)
    have il := (List.getElem?_eq_some_iff.1 hi).1
    obtain ⟨v1, v2, kb, h1, h2, j1, j2⟩ := D1.out.p
    obtain ⟨a1, c1, e1, hc1, hm1⟩ := h1.slice'
    obtain ⟨a2, c2, e2, hc2, hm2⟩ := h2.slice'
    obtain ⟨B, hB⟩ : ∃ B, M.map En.b = B := ⟨_, rfl⟩
    obtain ⟨F, hF⟩ : ∃ F, M.map En.h = F := ⟨_, rfl⟩
    obtain ⟨n, hN⟩ : ∃ n, M.length = n := ⟨_, rfl⟩
    have lB : B.length = n := by rw [← hB, List.length_map]; exact hN
    have lF : F.length = n := by rw [← hF, List.length_map]; exact hN
    rw [hB, lB] at e1 hc1
    rw [hF, lF] at e2 hc2
    rw [hB] at h1
    rw [hF] at h2
    subst e1 e2
    rw [hN] at il
    have hnb : n ≤ 1048576 := by rw [← hN]; exact D1.out.good.len
    have LB := Lib.hid lB; have LF := Lib.hid lF; have HB := Lib.hid hB; have HF := Lib.hid hF
    have KB := Lib.hid kb; have V1 := Lib.hid h1; have V2 := Lib.hid h2; have J1 := Lib.hid j1; have J2 := Lib.hid j2
    have c0 : w1.cell? ⟨mb, 0, none⟩ = some (.slice a1 n c1) := kb.cell 0
    have BA : Hid (∀ ob, Below w1.heap.size w1 (w1.alloc ob)) := Lib.hid fun ob => (Below.refl _ w1).alloc (Nat.le_refl _) ob
    have c0A : ∀ ob, (w1.alloc ob).cell? ⟨mb, 0, none⟩ = some (.slice a1 n c1) := fun ob => cell_later c0 (Nat.le_refl _) (BA.out ob)
    have q1 : (0 : Int) ≤ (i : Int) := by omega
    have q3 : decide ((i : Int) < 0) = false := decide_eq_false (by omega)
    have hwq : IntKind.i64.wrap ((i : Int) + 1) = (i : Int) + 1 := IntWalk.i64_in _ ⟨by omega, by omega⟩
    clear kb h1 h2 j1 j2 lB lF hB hF hN hi he
    go_upto_region 4 with fail
    go_cut [] (fun wx => MidD w1 mb (.slice a2 n c2) (B.take i ++ B.drop (i + 1)) F wx)
    case first =>
      obtain ⟨i0, hi0, hz0, hz1, hz2⟩ := info_parts infoB
      obtain ⟨sv1, hs1, hi1, hq1⟩ := cut_to (E := Elem.blks) (P := Try.prog) 29 Try.underlying29 sizeBk a1 n c1 i (by omega)
      obtain ⟨sv2, hs2, hi2, hq2, _⟩ := cut_from (E := Elem.blks) (P := Try.prog) 29 Try.underlying29 sizeBk a1 n c1 (i + 1) (by omega) hc1
      rw [show ((i + 1 : Nat) : Int) = (i : Int) + 1 by omega] at hs2
      have len1 : (B.take i).length ≤ 1048576 := by rw [List.length_take, LB.out]; omega
      have len2 : (B.drop (i + 1)).length ≤ 1048576 := by rw [List.length_drop, LB.out]; omega
      have SQ : Hid (∀ w', Below w1.heap.size w1 w' → Seq Elem.blks w' sv1 (B.take i) ∧ Seq Elem.blks w' sv2 (B.drop (i + 1))) :=
        Lib.hid fun w' hb => by
          have qs := V1.out.seq.below (Nat.le_refl _) hb
          exact ⟨hq1 _ _ qs (by omega), hq2 _ _ qs⟩
      clear hi1 hq1 hi2 hq2
      go_region_law (first
        | (refine step_append_vec (E := Elem.blks) rfl (.tmp 12) (.tmp 18) 29 rfl 35 i0 (.agg #[.int .u64 0, .int .u64 0, .int .u64 0]) 24 Try.underlying29 hi0 hz0 hz1 hz2 rfl (.slice (some ⟨w1.heap.size, 0, none⟩) 0 0) sv1 [] (B.take i) ?_ ?_ ?_ ?_ ?_ ?_ ?_
           · go_simp
           · go_simp
           · first | exact newAt15 w1 _ _ rfl | exact (newAt15 w1 _ _ rfl).drew | exact newAt15 w1.drew _ _ rfl
           · first | exact (SQ.out _ ((Below.refl _ w1).alloc (Nat.le_refl _) _)).1 | exact (SQ.out _ ((Below.refl _ w1).alloc (Nat.le_refl _) _).drew).1 | exact (SQ.out _ ((Below.refl _ w1).drew.alloc (Nat.le_refl _) _)).1
           · simp only [maxLen, List.length_nil]; omega
           · simp only [List.length_nil]; omega
           intro u1 x1 hv1' hu1' hin1'
           have B1' : Hid (Below w1.heap.size w1 x1) := Lib.hid (by
             refine Below.trans ?_ (hu1'.below (B := w1.heap.size) (fun k hk => by have := in_at15 hk; omega) ?_)
             · first | exact (Below.refl _ w1).alloc (Nat.le_refl _) _ | exact ((Below.refl _ w1).alloc (Nat.le_refl _) _).drew | exact (Below.refl _ w1).drew.alloc (Nat.le_refl _) _
             · first | exact ((Below.refl _ w1).alloc (Nat.le_refl _) _).size | exact ((Below.refl _ w1).drew.alloc (Nat.le_refl _) _).size)
           have N1' : Hid (∀ k, In u1 k → w1.heap.size ≤ k) := Lib.hid (fun k hk => by rcases hin1' k hk with x | x; (have := in_at15 x; omega); (simp at x; omega))
           have V1' := Lib.hid hv1'
           have c0x : x1.cell? ⟨mb, 0, none⟩ = some (.slice a1 n c1) := (KB.out.upd (updFalse_of B1'.out) (fun h => h)).cell 0
           clear hv1' hu1' hin1')
        | (refine step_append_vec (E := Elem.blks) rfl (.tmp 19) (.tmp 26) 29 rfl 35 i0 (.agg #[.int .u64 0, .int .u64 0, .int .u64 0]) 24 Try.underlying29 hi0 hz0 hz1 hz2 rfl u1 sv2 ([] ++ B.take i) (B.drop (i + 1)) ?_ ?_ V1'.out (SQ.out _ B1'.out).2 ?_ ?_ ?_
           · go_simp
           · go_simp
           · simp only [maxLen, List.nil_append]; omega
           · simp only [List.nil_append]; omega
           intro u2 x2 hv2' hu2' hin2'
           obtain ⟨a', c', ev, _⟩ := hv2'.slice'
           obtain ⟨m', hm'⟩ : ∃ m', ([] ++ B.take i ++ B.drop (i + 1)).length = m' := ⟨_, rfl⟩
           rw [hm'] at ev
           subst ev
           have B2' := Lib.hid (below_in15 B1'.out B1'.out.size N1'.out hu2')
           have V2' := Lib.hid hv2'
           have N2' : Hid (∀ k, In (.slice a' m' c') k → w1.heap.size ≤ k) := Lib.hid (fun k hk => by rcases hin2' k hk with x | x; exact N1'.out k x; exact Nat.le_trans B1'.out.size x)
           have K2' := Lib.hid (KB.out.upd (updFalse_of B2'.out) (fun h => h))
           have c0y : x2.cell? ⟨mb, 0, none⟩ = some (.slice a1 n c1) := K2'.out.cell 0
           have f0y : x2.frozen? ⟨mb, 0, none⟩ = false := K2'.out.frozen 0
           clear hv2' hu2' hin2' hm'))
      all_goals (try go_wp2_with fail)
      all_goals go_meet
      all_goals exact MidD.of K2'.out KB.out.lt V2'.out N2'.out V2.out (fun k hk => (J2.out k hk).2.1) B2'.out
    have MD := Lib.hid hcut
    obtain ⟨⟨v1, m0, m1, m2⟩, m3, m4⟩ := hcut
    have KC := Lib.hid m0; have VC := Lib.hid m3
    have c1c : wc.cell? ⟨mb, 1, none⟩ = some (.slice a2 n c2) := m0.cell 1
    have BC : Hid (∀ ob, Below wc.heap.size wc (wc.alloc ob)) := Lib.hid fun ob => (Below.refl _ wc).alloc (Nat.le_refl _) ob
    have c1A : ∀ ob, (wc.alloc ob).cell? ⟨mb, 1, none⟩ = some (.slice a2 n c2) := fun ob => cell_later c1c (Nat.le_refl _) (BC.out ob)
    have EB := Lib.hid (show (M.take i ++ M.drop (i + 1)).map En.b = B.take i ++ B.drop (i + 1) by rw [List.map_append, List.map_take, List.map_drop, HB.out])
    have EF := Lib.hid (show (M.take i ++ M.drop (i + 1)).map En.h = F.take i ++ F.drop (i + 1) by rw [List.map_append, List.map_take, List.map_drop, HF.out])
    clear m0 m1 m2 m3 m4 c0 c0A
    go_upto_region 5 with fail
    obtain ⟨i0, hi0, hz0, hz1, hz2⟩ := info_parts infoBo
    obtain ⟨sv1, hs1, hi1, hq1⟩ := cut_to (E := Elem.bools) (P := Try.prog) 30 Try.underlying30 sizeBo a2 n c2 i (by omega)
    obtain ⟨sv2, hs2, hi2, hq2, _⟩ := cut_from (E := Elem.bools) (P := Try.prog) 30 Try.underlying30 sizeBo a2 n c2 (i + 1) (by omega) hc2
    rw [show ((i + 1 : Nat) : Int) = (i : Int) + 1 by omega] at hs2
    have len1 : (F.take i).length ≤ 1048576 := by rw [List.length_take, LF.out]; omega
    have len2 : (F.drop (i + 1)).length ≤ 1048576 := by rw [List.length_drop, LF.out]; omega
    have SQ : Hid (∀ w', Below wc.heap.size wc w' → Seq Elem.bools w' sv1 (F.take i) ∧ Seq Elem.bools w' sv2 (F.drop (i + 1))) :=
      Lib.hid fun w' hb => by
        have qs := VC.out.seq.below (Nat.le_refl _) hb
        exact ⟨hq1 _ _ qs (by omega), hq2 _ _ qs⟩
    clear hi1 hq1 hi2 hq2
    go_region_law (first
      | (refine step_append_vec (E := Elem.bools) rfl (.tmp 31) (.tmp 37) 30 rfl 4 i0 (.bool false) 1 Try.underlying30 hi0 hz0 hz1 hz2 rfl (.slice (some ⟨wc.heap.size, 0, none⟩) 0 0) sv1 [] (F.take i) ?_ ?_ ?_ ?_ ?_ ?_ ?_
         · go_simp
         · go_simp
         · first | exact newAt15 wc _ _ rfl | exact (newAt15 wc _ _ rfl).drew | exact newAt15 wc.drew _ _ rfl
         · first | exact (SQ.out _ ((Below.refl _ wc).alloc (Nat.le_refl _) _)).1 | exact (SQ.out _ ((Below.refl _ wc).alloc (Nat.le_refl _) _).drew).1 | exact (SQ.out _ ((Below.refl _ wc).drew.alloc (Nat.le_refl _) _)).1
         · simp only [maxLen, List.length_nil]; omega
         · simp only [List.length_nil]; omega
         intro u1 x1 hv1' hu1' hin1'
         have B1' : Hid (Below wc.heap.size wc x1) := Lib.hid (by
           refine Below.trans ?_ (hu1'.below (B := wc.heap.size) (fun k hk => by have := in_at15 hk; omega) ?_)
           · first | exact (Below.refl _ wc).alloc (Nat.le_refl _) _ | exact ((Below.refl _ wc).alloc (Nat.le_refl _) _).drew | exact (Below.refl _ wc).drew.alloc (Nat.le_refl _) _
           · first | exact ((Below.refl _ wc).alloc (Nat.le_refl _) _).size | exact ((Below.refl _ wc).drew.alloc (Nat.le_refl _) _).size)
         have N1' : Hid (∀ k, In u1 k → wc.heap.size ≤ k) := Lib.hid (fun k hk => by rcases hin1' k hk with x | x; (have := in_at15 x; omega); (simp at x; omega))
         have V1' := Lib.hid hv1'
         have c0x : x1.cell? ⟨mb, 1, none⟩ = some (.slice a2 n c2) := (KC.out.upd (updFalse_of B1'.out) (fun h => h)).cell 1
         clear hv1' hu1' hin1')
      | (refine step_append_vec (E := Elem.bools) rfl (.tmp 38) (.tmp 45) 30 rfl 4 i0 (.bool false) 1 Try.underlying30 hi0 hz0 hz1 hz2 rfl u1 sv2 ([] ++ F.take i) (F.drop (i + 1)) ?_ ?_ V1'.out (SQ.out _ B1'.out).2 ?_ ?_ ?_
         · go_simp
         · go_simp
         · simp only [maxLen, List.nil_append]; omega
         · simp only [List.nil_append]; omega
         intro u2 x2 hv2' hu2' hin2'
         obtain ⟨a', c', ev, _⟩ := hv2'.slice'
         obtain ⟨m', hm'⟩ : ∃ m', ([] ++ F.take i ++ F.drop (i + 1)).length = m' := ⟨_, rfl⟩
         rw [hm'] at ev
         subst ev
         have B2' := Lib.hid (below_in15 B1'.out B1'.out.size N1'.out hu2')
         have V2' := Lib.hid hv2'
         have N2' : Hid (∀ k, In (.slice a' m' c') k → wc.heap.size ≤ k) := Lib.hid (fun k hk => by rcases hin2' k hk with x | x; exact N1'.out k x; exact Nat.le_trans B1'.out.size x)
         have K2' := Lib.hid (KC.out.upd (updFalse_of B2'.out) (fun h => h))
         have c0y : x2.cell? ⟨mb, 1, none⟩ = some (.slice a2 n c2) := K2'.out.cell 1
         have f0y : x2.frozen? ⟨mb, 1, none⟩ = false := K2'.out.frozen 1
         clear hv2' hu2' hin2' hm'))
    all_goals (try go_wp2_with fail)
    all_goals go_ret
    all_goals
      obtain ⟨d1, d2⟩ := MD.out.done (L := M) GD.out D1.out.tm KB.out.lt BW.out EB.out EF.out V2'.out N2'.out B2'.out
      exact ⟨by rw [E.out]; rfl, by rw [E.out]; exact d1, d2⟩
end Go.Proofs.Ytclmdjkihijciaa
