/- The document's ledger: Add. -/
import Derived.Test.YtclmdjkihijciaaDocE
import Derived.Test.YtclmdjkihijciaaDocF
import Derived.Test.YtclmdjkihijciaaOrd15
namespace Go.Proofs.Ytclmdjkihijciaa
open Go.RowKit LedMath
set_option linter.unusedVariables false
set_option linter.unusedSimpArgs false

/-- Where the new one comes: before i all begin below it, the i-th doesn't. -/
theorem ins_at {M : List En} (h : GoodL M) (b : En) {i : Nat} (h1 : ∀ t e, t < i → M[t]? = some e → e.a < b.a) (h2 : ∀ e, M[i]? = some e → b.a ≤ e.a) : insE M b = M.take i ++ b :: M.drop i := by
  have hr := h.rise
  have a1 : ∀ e ∈ M.take i, e.a < b.a := fun e he => by
    obtain ⟨t, ht⟩ := List.getElem?_of_mem he
    have hl := (List.getElem?_eq_some_iff.1 ht).1
    rw [List.length_take] at hl
    rw [List.getElem?_take_of_lt (by omega)] at ht
    exact h1 t e (by omega) ht
  have a2 : ∀ e ∈ M.drop i, b.a ≤ e.a := fun e he => by
    cases hc : M[i]? with
    | none =>
      rw [List.drop_eq_nil_of_le (by simpa using hc)] at he
      cases he
    | some f =>
      have hf := h2 f hc
      obtain ⟨t, ht⟩ := List.getElem?_of_mem he
      rw [List.getElem?_drop] at ht
      by_cases h0 : t = 0
      · subst h0
        rw [Nat.add_zero, hc] at ht
        injection ht with ht
        subst ht; exact hf
      · obtain ⟨l1, e1⟩ := List.getElem?_eq_some_iff.1 ht
        obtain ⟨l2, e2⟩ := List.getElem?_eq_some_iff.1 hc
        have := List.pairwise_iff_getElem.1 hr i (i + t) l2 l1 (by omega)
        rw [e1, e2] at this
        omega
  have e1 : M.filter (fun e => decide (e.a < b.a)) = M.take i := by
    conv => lhs; rw [← List.take_append_drop i M]
    rw [List.filter_append, List.filter_eq_self.2 fun e he => decide_eq_true (a1 e he), List.filter_eq_nil_iff.2 fun e he => by simpa using a2 e he, List.append_nil]
  have e2 : M.filter (fun e => decide (b.a ≤ e.a)) = M.drop i := by
    conv => lhs; rw [← List.take_append_drop i M]
    rw [List.filter_append, List.filter_eq_nil_iff.2 fun e he => by simpa using a1 e he, List.filter_eq_self.2 fun e he => decide_eq_true (a2 e he), List.nil_append]
  unfold insE
  rw [e1, e2]
def AddI (w : World) (M : List En) (q a n g : Nat) (i : Value) (wr : World) : Prop :=
  ∃ j : Nat, j ≤ M.length ∧ i = .int .i64 (j : Int) ∧ (∀ t e, t < j → M[t]? = some e → e.a < a) ∧ BoxB w q a n g wr
set_option maxRecDepth 100000 in
set_option maxHeartbeats 8000000 in
theorem doc_Add (w : World) {mb a n g : Nat} {T : Nat → Prop} {M : List En} (h : DL w mb T M) (ha : U64B a) (hn : U64B n) (hl : M.length < 1048576) : Calls Try.prog 25 #[ptrV mb 0, .agg #[.int .u64 (a : Int), .int .u64 (n : Int), .int .u64 (g : Int)]] w fun r w' => r = .returned (.int .i64 ((addE M a n g).1 : Int)) ∧ DL w' mb (fun k => T k ∨ w.heap.size ≤ k) (addE M a n g).2 ∧ Upd T w w' := by
  obtain ⟨q, hq⟩ : ∃ q, w.heap.size = q := ⟨_, rfl⟩
  have ST := BoxB.start w a n g
  rw [hq] at ST
  have HQ := Lib.hid hq
  obtain ⟨W0, hW⟩ : ∃ W0, w.alloc (.cells #[.int .u64 (a : Int), .int .u64 (n : Int), .int .u64 (g : Int)] 35) = W0 := ⟨_, rfl⟩
  rw [hW] at ST
  have ST := Lib.hid ST
  obtain ⟨c0, c1, c2⟩ := ST.out.c
  obtain ⟨t, ht⟩ : ∃ t : Nat, max n 1 = t := ⟨_, rfl⟩
  have htb : U64B t := by unfold U64B at *; omega
  have H := Lib.hid h
  have HT : Hid (∀ w', BoxB w q a n g w' → Calls Try.prog 41 #[.agg #[.int .u64 (a : Int), .int .u64 (n : Int), .int .u64 (g : Int)]] w' fun r w2 => r = .returned (.int .u64 (t : Int)) ∧ BoxB w q a n g w2) := Lib.hid fun w' k => by
    have := doc_takes w' a n g
    rw [ht] at this
    exact this.mono fun r w2 h => ⟨h.1, k.grew h.2⟩
  obtain ⟨fr, hfr⟩ : ∃ fr, freeL M a t = fr := ⟨_, rfl⟩
  have HF : Hid (∀ w', BoxB w q a n g w' → Calls Try.prog 24 #[ptrV mb 0, .int .u64 (a : Int), .int .u64 (t : Int)] w' fun r w2 => r = .returned (.bool fr) ∧ BoxB w q a n g w2) := Lib.hid fun w' k => by
    have := doc_Free w' (H.out.below k.below) ha htb
    rw [hfr] at this
    exact this.mono fun r w2 h => ⟨h.1, k.grew h.2⟩
  obtain ⟨my, hmy⟩ : ∃ my, mayE a n g = my := ⟨_, rfl⟩
  have HM : Hid (∀ w', BoxB w q a n g w' → Calls Try.prog 42 #[.agg #[.int .u64 (a : Int), .int .u64 (n : Int), .int .u64 (g : Int)]] w' fun r w2 => r = .returned (.bool my) ∧ BoxB w q a n g w2) := Lib.hid fun w' k => by
    have := doc_May w' (a := a) (n := n) (g := g)
    rw [hmy] at this
    exact this.mono fun r w2 h => ⟨h.1, k.grew h.2⟩
  have MY := Lib.hid hmy; have FR := Lib.hid hfr; have HTT := Lib.hid ht
  have HL := Lib.hid hl
  have HW := Lib.hid hW
  have DG : Hid (∀ w', BoxB w q a n g w' → DL w' mb (fun k => T k ∨ w.heap.size ≤ k) M ∧ Upd T w w') := Lib.hid fun w' k => ⟨(H.out.below k.below).mono fun _ _ hk => .inl hk, (updFalse_of k.below).mono fun _ h => h.elim⟩
  clear ht htb ha hn hmy hfr h hl
  go_enter Try.func25, Try.ntmps25
  go_wp2_with fail
  refine (HM.out _ ST.out).mono ?_
  rintro r w1 ⟨rfl, hst⟩
  obtain ⟨c0, c1, c2⟩ := hst.c
  have ST := Lib.hid hst
  clear hst hW HW HM
  cases my
  · have E := Lib.hid (show addE M a n g = (2, M) by unfold addE; rw [MY.out]; rfl)
    go_wp2_with fail
    go_ret
    exact ⟨by rw [E.out]; rfl, by rw [E.out]; exact (DG.out _ ST.out).1, (DG.out _ ST.out).2⟩
  go_wp2_with fail
  go_region_held3 (fun w' => w'.cell? ⟨q, 0, none⟩ = some (.int .u64 (a : Int)) ∧ w'.cell? ⟨q, 1, none⟩ = some (.int .u64 (n : Int)) ∧ w'.cell? ⟨q, 2, none⟩ = some (.int .u64 (g : Int))) (first | go_keep | exact ⟨c0, c1, c2⟩)
    (first
      | (go_at_call 41; (first | (with_reducible refine (HT.out _ ST.out.drew).mono ?_) | (with_reducible refine (HT.out _ ST.out).mono ?_)); rintro r w5 ⟨rfl, hst⟩; obtain ⟨c0, c1, c2⟩ := hst.c; have ST := Lib.hid hst; clear hst)
      | (go_at_call 24; (first | (with_reducible refine (HF.out _ ST.out.drew).mono ?_) | (with_reducible refine (HF.out _ ST.out).mono ?_)); rintro r w6 ⟨rfl, hst⟩; obtain ⟨c0, c1, c2⟩ := hst.c; have ST := Lib.hid hst; clear hst))
  clear HT HF
  have MZ := Lib.hid (show a + t ≤ 1048576 ∧ 0 < t by have := may_end MY.out; rw [HTT.out] at this; exact ⟨this, by rw [← HTT.out]; omega⟩)
  have ME := Lib.hid (show fr = !metL M a t by rw [← FR.out]; unfold freeL; rw [decide_eq_false (by have := MZ.out.2; omega), decide_eq_true (by have := MZ.out.1; omega), Bool.false_or, Bool.true_and])
  cases fr
  · have E := Lib.hid (show addE M a n g = (6, M) by unfold addE; rw [MY.out, HTT.out, if_pos rfl, if_pos (by have := ME.out; cases hh : metL M a t; rw [hh] at this; cases this; rfl)])
    go_wp2_with fail
    go_ret
    exact ⟨by rw [E.out]; rfl, by rw [E.out]; exact (DG.out _ ST.out).1, (DG.out _ ST.out).2⟩
  have EM := Lib.hid (show metL M a t = false by have := ME.out; cases hh : metL M a t; rfl; rw [hh] at this; cases this)
  have E := Lib.hid (show addE M a n g = (0, insE M ⟨a, n, g, false⟩) by unfold addE; rw [MY.out, HTT.out, if_pos rfl, if_neg (by rw [EM.out]; decide)])
  have GI := Lib.hid (show GoodL (insE M ⟨a, n, g, false⟩) from H.out.good.ins MY.out (by show metL M a (max n 1) = false; rw [HTT.out]; exact EM.out))
  obtain ⟨a1, c1s, a2, c2s, m0, m1, s1, s2⟩ := H.out.open
  have S1 := Lib.hid s1
  obtain ⟨l, hN⟩ : ∃ l, M.length = l := ⟨_, rfl⟩
  have HN := Lib.hid hN
  rw [hN] at m0 m1 S1
  have hnb : l < 1048576 := by rw [← hN]; exact HL.out
  have I0 := Lib.hid (show AddI w M q a n g (.int .i64 0) w6 from ⟨0, Nat.zero_le _, rfl, fun t e ht => absurd ht (Nat.not_lt_zero _), ST.out⟩)
  clear s1 s2 hN c0 c1 c2 ST
  go_upto_block 0 with fail
  go_cut [5] (fun v wx => ∃ i : Nat, i ≤ M.length ∧ v = .int .i64 (i : Int) ∧ insE M ⟨a, n, g, false⟩ = M.take i ++ ⟨a, n, g, false⟩ :: M.drop i ∧ BoxB w q a n g wx)
  case first =>
    go_wp2_with fail
    go_loopw [5] (fun i wr => AddI w M q a n g i wr) (fun i _ => l - (intOf i).toNat)
    case atStart => exact I0.out
    case round =>
      clear I0
      obtain ⟨j, hj, rfl, hno, hst⟩ := hrel
      rw [HN.out] at hj
      have ST := Lib.hid hst
      have NO := Lib.hid hno
      obtain ⟨c0, c1, c2⟩ := hst.c
      have m0' : wr.cell? ⟨mb, 0, none⟩ = some (.slice a1 l c1s) := cell_later m0 (Nat.le_refl _) hst.below
      have m1' : wr.cell? ⟨mb, 1, none⟩ = some (.slice a2 l c2s) := cell_later m1 (Nat.le_refl _) hst.below
      have q3 : (0 : Int) ≤ (j : Int) := by omega
      by_cases hjl : j < l
      · have q4 : (j : Int) < (l : Int) := by omega
        have t2 : decide (j < l) = true := decide_eq_true hjl
        have t2' : decide ((j : Int) < (l : Int)) = true := decide_eq_true (by omega)
        obtain ⟨e, he⟩ : ∃ e, M[j]? = some e := ⟨_, List.getElem?_eq_getElem (by rw [HN.out]; exact hjl)⟩
        obtain ⟨b, off, eq', k0, k1, k2⟩ := (S1.out wr hst.below).blk (i := j) (x := e.b) (by rw [List.getElem?_map, he]; rfl)
        subst eq'
        obtain ⟨ea, hea⟩ : ∃ ea, e.b.1 = ea := ⟨_, rfl⟩
        rw [hea] at k0
        have EA := Lib.hid (show e.a = ea from hea)
        have HE := Lib.hid he
        clear k1 k2 he hea hno hst
        by_cases hx : ea < a
        · have t3 : decide (ea < a) = true := decide_eq_true hx
          have t3' : decide ((ea : Int) < (a : Int)) = true := decide_eq_true (by omega)
          have w1x : IntKind.i64.wrap ((j : Int) + 1) = (j : Int) + 1 := IntWalk.i64_in _ ⟨by omega, by omega⟩
          have NO2 := Lib.hid (show ∀ i f, i < j + 1 → M[i]? = some f → f.a < a from fun i f hi hf => by
            by_cases h : i = j
            · subst h; rw [HE.out] at hf; injection hf with hf; subst hf; rw [EA.out]; exact hx
            · exact NO.out i f (by omega) hf)
          clear hx
          go_wp2_with fail
          go_quiet (fail)
          go_wp2_with fail
          go_roundw
          case rel => exact ⟨j + 1, by rw [HN.out]; omega, by go_num, NO2.out, ST.out.grew (by first | exact Below.refl _ _ | exact (Below.refl _ _).drew | exact below_drewN (Below.refl _ _) _)⟩
          case measure => simp [intOf] <;> omega
        · have t3 : decide (ea < a) = false := decide_eq_false hx
          have t3' : decide ((ea : Int) < (a : Int)) = false := decide_eq_false (by omega)
          have IA := Lib.hid (ins_at H.out.good ⟨a, n, g, false⟩ (i := j) NO.out fun f hf => by rw [HE.out] at hf; injection hf with hf; subst hf; show a ≤ e.a; rw [EA.out]; omega)
          clear hx
          go_wp2_with fail
          go_quiet (fail)
          go_wp2_with fail
          go_meet
          exact ⟨j, by rw [HN.out]; exact hj, rfl, IA.out, ST.out.grew (by first | exact Below.refl _ _ | exact (Below.refl _ _).drew | exact below_drewN (Below.refl _ _) _)⟩
      · obtain rfl : j = l := by omega
        have t2 : decide (j < j) = false := decide_eq_false hjl
        have t2' : decide ((j : Int) < (j : Int)) = false := decide_eq_false (by omega)
        have IA := Lib.hid (ins_at H.out.good ⟨a, n, g, false⟩ (i := j) hno fun f hf => by have := (List.getElem?_eq_some_iff.1 hf).1; rw [HN.out] at this; omega)
        clear hno hst hjl
        go_wp2_with fail
        go_quiet (fail)
        go_wp2_with fail
        go_meet
        exact ⟨j, by rw [HN.out]; exact hj, rfl, IA.out, ST.out.grew (by first | exact Below.refl _ _ | exact (Below.refl _ _).drew | exact below_drewN (Below.refl _ _) _)⟩
  obtain ⟨i, hi, rfl, hins, hst⟩ := hcut
  obtain ⟨wa, rfl⟩ : ∃ wa, wa = wc := ⟨wc, rfl⟩
  have IA := Lib.hid hins
  have ST := Lib.hid hst
  rw [HN.out] at hi
  obtain ⟨v1, v2, kb, h1, h2, j1, j2⟩ := (H.out.below hst.below).p
  clear m0 m1 S1 I0 hins
  obtain ⟨a1, c1s, e1, hc1, hm1⟩ := h1.slice'
  obtain ⟨a2, c2s, e2, hc2, hm2⟩ := h2.slice'
  obtain ⟨B, hB⟩ : ∃ B, M.map En.b = B := ⟨_, rfl⟩
  obtain ⟨F, hF⟩ : ∃ F, M.map En.h = F := ⟨_, rfl⟩
  have lB : B.length = l := by rw [← hB, List.length_map]; exact HN.out
  have lF : F.length = l := by rw [← hF, List.length_map]; exact HN.out
  rw [hB, lB] at e1 hc1
  rw [hF, lF] at e2 hc2
  rw [hB] at h1
  rw [hF] at h2
  subst e1 e2
  have LB := Lib.hid lB; have LF := Lib.hid lF; have HB := Lib.hid hB; have HF := Lib.hid hF
  have KB := Lib.hid kb; have V1 := Lib.hid h1; have V2 := Lib.hid h2; have J1 := Lib.hid j1; have J2 := Lib.hid j2
  have q1 : (0 : Int) ≤ (i : Int) := by omega
  clear kb h1 h2 j1 j2 lB lF hB hF hst
  go_upto_region 8 with fail
  go_cut [] (fun wx => MidD wa mb (.slice a2 l c2s) (B.take i ++ (a, n, g) :: B.drop i) F wx)
  case first =>
    obtain ⟨i0, hi0, hz0, hz1, hz2⟩ := info_parts infoB
    obtain ⟨sv1, hs1, hi1, hq1⟩ := cut_to (E := Elem.blks) (P := Try.prog) 29 Try.underlying29 sizeBk a1 l c1s i (by omega)
    obtain ⟨sv2, hs2, hi2, hq2, _⟩ := cut_from (E := Elem.blks) (P := Try.prog) 29 Try.underlying29 sizeBk a1 l c1s i (by omega) hc1
    have len1 : (B.take i).length ≤ 1048576 := by rw [List.length_take, LB.out]; omega
    have len2 : (B.drop i).length ≤ 1048576 := by rw [List.length_drop, LB.out]; omega
    have SQ : Hid (∀ w', Below wa.heap.size wa w' → Seq Elem.blks w' sv1 (B.take i) ∧ Seq Elem.blks w' sv2 (B.drop i)) := Lib.hid fun w' hb => by
      have qs := V1.out.seq.below (Nat.le_refl _) hb
      exact ⟨hq1 _ _ qs (by omega), hq2 _ _ qs⟩
    have SS : Hid (∀ y, Below wa.heap.size wa y → y.cell? ⟨mb, 0, none⟩ = some (.slice a1 l c1s) ∧ y.cell? ⟨q, 0, none⟩ = some (.int .u64 (a : Int)) ∧ y.cell? ⟨q, 1, none⟩ = some (.int .u64 (n : Int)) ∧ y.cell? ⟨q, 2, none⟩ = some (.int .u64 (g : Int))) := Lib.hid fun y hb => ⟨(KB.out.upd (updFalse_of hb) (fun h => h)).cell 0, (ST.out.grew hb).c⟩
    clear hi1 hq1 hi2 hq2
    refine till_start (fun y => y.cell? ⟨mb, 0, none⟩ = some (.slice a1 l c1s) ∧ y.cell? ⟨q, 0, none⟩ = some (.int .u64 (a : Int)) ∧ y.cell? ⟨q, 1, none⟩ = some (.int .u64 (n : Int)) ∧ y.cell? ⟨q, 2, none⟩ = some (.int .u64 (g : Int))) 19 (by kernel_rfl) ?_
    change Till _ _ _ _ _ _ 22 #[false, false, false, false, false, false, false, false, false, false, false, false, false, false, false, false, false, false, false, false, false, false] _ _
    have hS := SS.out wa.drew (Below.refl _ wa).drew
    refine till_take 0 (.pointer (some ⟨mb, 0, none⟩)) rfl rfl (by kernel_rfl) (by kernel_rfl) (by kernel_rfl) (by kernel_rfl) (by kernel_rfl) (by kernel_rfl) (fun _ _ _ h => h) (by rfl) (by intro w hSw; (try dsimp only at hSw); go_simp) hS ?_
    simp only [Act.put, List.setIfInBounds_toArray, List.set_cons_zero, List.set_cons_succ]
    refine till_take 2 (.pointer (some ⟨mb, 0, none⟩)) rfl rfl (by kernel_rfl) (by kernel_rfl) (by kernel_rfl) (by kernel_rfl) (by kernel_rfl) (by kernel_rfl) (fun _ _ _ h => h) (by rfl) (by intro w hSw; (try dsimp only at hSw); go_simp) hS ?_
    simp only [Act.put, List.setIfInBounds_toArray, List.set_cons_zero, List.set_cons_succ]
    refine till_take 3 (.pointer (some ⟨mb, 0, none⟩)) rfl rfl (by kernel_rfl) (by kernel_rfl) (by kernel_rfl) (by kernel_rfl) (by kernel_rfl) (by kernel_rfl) (fun _ _ _ h => h) (by rfl) (by intro w hSw; (try dsimp only at hSw); go_simp) hS ?_
    simp only [Act.put, List.setIfInBounds_toArray, List.set_cons_zero, List.set_cons_succ]
    refine till_take 4 (.pointer (some ⟨mb, 0, none⟩)) rfl rfl (by kernel_rfl) (by kernel_rfl) (by kernel_rfl) (by kernel_rfl) (by kernel_rfl) (by kernel_rfl) (fun _ _ _ h => h) (by rfl) (by intro w hSw; (try dsimp only at hSw); go_simp) hS ?_
    simp only [Act.put, List.setIfInBounds_toArray, List.set_cons_zero, List.set_cons_succ]
    refine till_take 5 (.slice a1 l c1s) rfl rfl (by kernel_rfl) (by kernel_rfl) (by kernel_rfl) (by kernel_rfl) (by kernel_rfl) (by kernel_rfl) (fun _ _ _ h => h) (by rfl) (by intro w hSw; (try dsimp only at hSw); go_simp) hS ?_
    simp only [Act.put, List.setIfInBounds_toArray, List.set_cons_zero, List.set_cons_succ]
    refine till_take 6 (.int .i64 (i : Int)) rfl rfl (by kernel_rfl) (by kernel_rfl) (by kernel_rfl) (by kernel_rfl) (by kernel_rfl) (by kernel_rfl) (fun _ _ _ h => h) (by rfl) (by intro w hSw; (try dsimp only at hSw); go_simp) hS ?_
    simp only [Act.put, List.setIfInBounds_toArray, List.set_cons_zero, List.set_cons_succ]
    refine till_take 7 (sv1) rfl rfl (by kernel_rfl) (by kernel_rfl) (by kernel_rfl) (by kernel_rfl) (by kernel_rfl) (by kernel_rfl) (fun _ _ _ h => h) (by rfl) (by intro w hSw; (try dsimp only at hSw); go_simp) hS ?_
    simp only [Act.put, List.setIfInBounds_toArray, List.set_cons_zero, List.set_cons_succ]
    refine till_take 9 (.agg #[.int .u64 (a : Int), .int .u64 (n : Int), .int .u64 (g : Int)]) rfl rfl (by kernel_rfl) (by kernel_rfl) (by kernel_rfl) (by kernel_rfl) (by kernel_rfl) (by kernel_rfl) (fun _ _ _ h => h) (by rfl) (by intro w hSw; (try dsimp only at hSw); go_simp) hS ?_
    simp only [Act.put, List.setIfInBounds_toArray, List.set_cons_zero, List.set_cons_succ]
    refine till_take 12 (.pointer (some ⟨mb, 0, none⟩)) rfl rfl (by kernel_rfl) (by kernel_rfl) (by kernel_rfl) (by kernel_rfl) (by kernel_rfl) (by kernel_rfl) (fun _ _ _ h => h) (by rfl) (by intro w hSw; (try dsimp only at hSw); go_simp) hS ?_
    simp only [Act.put, List.setIfInBounds_toArray, List.set_cons_zero, List.set_cons_succ]
    refine till_take 13 (.pointer (some ⟨mb, 0, none⟩)) rfl rfl (by kernel_rfl) (by kernel_rfl) (by kernel_rfl) (by kernel_rfl) (by kernel_rfl) (by kernel_rfl) (fun _ _ _ h => h) (by rfl) (by intro w hSw; (try dsimp only at hSw); go_simp) hS ?_
    simp only [Act.put, List.setIfInBounds_toArray, List.set_cons_zero, List.set_cons_succ]
    refine till_take 14 (.pointer (some ⟨mb, 0, none⟩)) rfl rfl (by kernel_rfl) (by kernel_rfl) (by kernel_rfl) (by kernel_rfl) (by kernel_rfl) (by kernel_rfl) (fun _ _ _ h => h) (by rfl) (by intro w hSw; (try dsimp only at hSw); go_simp) hS ?_
    simp only [Act.put, List.setIfInBounds_toArray, List.set_cons_zero, List.set_cons_succ]
    refine till_take 15 (.slice a1 l c1s) rfl rfl (by kernel_rfl) (by kernel_rfl) (by kernel_rfl) (by kernel_rfl) (by kernel_rfl) (by kernel_rfl) (fun _ _ _ h => h) (by rfl) (by intro w hSw; (try dsimp only at hSw); go_simp) hS ?_
    simp only [Act.put, List.setIfInBounds_toArray, List.set_cons_zero, List.set_cons_succ]
    refine till_take 16 (.int .i64 (i : Int)) rfl rfl (by kernel_rfl) (by kernel_rfl) (by kernel_rfl) (by kernel_rfl) (by kernel_rfl) (by kernel_rfl) (fun _ _ _ h => h) (by rfl) (by intro w hSw; (try dsimp only at hSw); go_simp) hS ?_
    simp only [Act.put, List.setIfInBounds_toArray, List.set_cons_zero, List.set_cons_succ]
    refine till_take 17 (sv2) rfl rfl (by kernel_rfl) (by kernel_rfl) (by kernel_rfl) (by kernel_rfl) (by kernel_rfl) (by kernel_rfl) (fun _ _ _ h => h) (by rfl) (by intro w hSw; (try dsimp only at hSw); go_simp) hS ?_
    simp only [Act.put, List.setIfInBounds_toArray, List.set_cons_zero, List.set_cons_succ]
    clear hS
    obtain ⟨y, hy⟩ : ∃ y, wa.drew = y := ⟨_, rfl⟩
    have BY : Hid (Below wa.heap.size wa y) := Lib.hid (by rw [← hy]; exact (Below.refl _ wa).drew)
    rw [hy]
    clear hy
    refine till_two 1 10 rfl rfl (by kernel_rfl) (fun K hK => ?_) (fun K hK => ?_)
    · skip
      have HK := Lib.hid hK
      clear hK
      go_simp
      refine HK.out _ _ (fun _ => SS.out _ (BY.out.alloc BY.out.size _)) ?_
      clear HK K
      simp only [Act.put, List.setIfInBounds_toArray, List.set_cons_zero, List.set_cons_succ]
      obtain ⟨p, hp⟩ : ∃ p, y.heap.size = p := ⟨_, rfl⟩
      have PN : Hid (wa.heap.size ≤ p) := Lib.hid (by rw [← hp]; exact BY.out.size)
      obtain ⟨y1, hy, V0⟩ : ∃ y1, y.alloc (.cells #[] 35) = y1 ∧ Hid (Vec Elem.blks y1 (.slice (some ⟨p, 0, none⟩) 0 0) []) := ⟨_, rfl, Lib.hid (newAt15 y _ _ hp.symm)⟩
      have P1L : Hid (p < y1.heap.size) := Lib.hid (by rw [← hy, World.size_alloc]; omega)
      replace BY : Hid (Below wa.heap.size wa y1) := Lib.hid (by rw [← hy]; exact BY.out.alloc BY.out.size _)
      rw [hy, hp]
      clear hy hp
      clear y
      obtain ⟨y, rfl⟩ : ∃ y, y = y1 := ⟨_, rfl⟩
      refine till_two 8 10 rfl rfl (by kernel_rfl) (fun K hK => ?_) (fun K hK => ?_)
      · skip
        have HK := Lib.hid hK
        clear hK
        refine step_append_vec (E := Elem.blks) rfl (.tmp 39) (.tmp 45) 29 rfl 35 i0 (.agg #[.int .u64 0, .int .u64 0, .int .u64 0]) 24 Try.underlying29 hi0 hz0 hz1 hz2 rfl (.slice (some ⟨p, 0, none⟩) 0 0) sv1 [] (B.take i) (by go_simp) (by go_simp) V0.out (SQ.out _ BY.out).1 (by simp only [maxLen, List.length_nil]; omega) (by simp only [List.length_nil]; omega) ?_
        intro u1 y1 hv hu hin
        replace BY : Hid (Below wa.heap.size wa y1) := Lib.hid (below_in15 BY.out BY.out.size (fun k hk => by rw [← in_at15 hk]; exact PN.out) hu)
        have N1 : Hid (∀ k, In u1 k → wa.heap.size ≤ k) := Lib.hid fun k hk => by rcases hin k hk with h | h; (rw [← in_at15 h]; exact PN.out); (have := P1L.out; have := PN.out; omega)
        have V1 := Lib.hid hv
        clear hv hin
        refine HK.out _ _ (fun _ => SS.out _ BY.out) ?_
        clear hu HK K V0
        (try clear P1L)
        (try clear P2L)
        clear y
        obtain ⟨y, rfl⟩ : ∃ y, y = y1 := ⟨_, rfl⟩
        simp only [Act.put, List.setIfInBounds_toArray, List.set_cons_zero, List.set_cons_succ]
        refine till_one 10 rfl (by kernel_rfl) (fun K hK => ?_)
        have HK := Lib.hid hK
        clear hK
        go_simp
        refine HK.out _ _ (fun _ => SS.out _ (BY.out.alloc BY.out.size _)) ?_
        clear HK K
        simp only [Act.put, List.setIfInBounds_toArray, List.set_cons_zero, List.set_cons_succ]
        obtain ⟨p2, hp⟩ : ∃ p, y.heap.size = p := ⟨_, rfl⟩
        have PN2 : Hid (wa.heap.size ≤ p2) := Lib.hid (by rw [← hp]; exact BY.out.size)
        obtain ⟨y1, hy, VB⟩ : ∃ y1, y.alloc (.cells #[.int .u64 (a : Int), .int .u64 (n : Int), .int .u64 (g : Int)] 35) = y1 ∧ Hid (Seq Elem.blks y1 (.slice (some ⟨p2, 0, none⟩) 1 1) [(a, n, g)]) := ⟨_, rfl, Lib.hid (by rw [← hp]; exact Seq.new y _ [(a, n, g)] 1)⟩
        replace V1 := Lib.hid (V1.out.alloc (.cells #[.int .u64 (a : Int), .int .u64 (n : Int), .int .u64 (g : Int)] 35))
        rw [hy] at V1
        have P2L : Hid (p2 < y1.heap.size) := Lib.hid (by rw [← hy, World.size_alloc]; omega)
        replace BY : Hid (Below wa.heap.size wa y1) := Lib.hid (by rw [← hy]; exact BY.out.alloc BY.out.size _)
        rw [hy, hp]
        clear hy hp
        clear y
        obtain ⟨y, rfl⟩ : ∃ y, y = y1 := ⟨_, rfl⟩
        refine till_one 11 rfl (by kernel_rfl) (fun K hK => ?_)
        have HK := Lib.hid hK
        clear hK
        refine step_append_vec (E := Elem.blks) rfl (.tmp 46) (.tmp 48) 29 rfl 35 i0 (.agg #[.int .u64 0, .int .u64 0, .int .u64 0]) 24 Try.underlying29 hi0 hz0 hz1 hz2 rfl u1 (.slice (some ⟨p2, 0, none⟩) 1 1) ([] ++ B.take i) [(a, n, g)] (by go_simp) (by go_simp) V1.out VB.out (by simp only [maxLen, List.nil_append, List.length_cons, List.length_nil]; omega) (by simp only [List.nil_append, List.length_cons, List.length_nil]; omega) ?_
        intro u2 y1 hv hu hin
        have N2 : Hid (∀ k, In u2 k → wa.heap.size ≤ k) := Lib.hid fun k hk => by rcases hin k hk with h | h; exact N1.out k h; exact Nat.le_trans BY.out.size h
        replace BY : Hid (Below wa.heap.size wa y1) := Lib.hid (below_in15 BY.out BY.out.size N1.out hu)
        have V2' := Lib.hid hv
        clear hv hin
        refine HK.out _ _ (fun _ => SS.out _ BY.out) ?_
        clear hu HK K V1 VB N1
        (try clear P1L)
        (try clear P2L)
        clear y
        obtain ⟨y, rfl⟩ : ∃ y, y = y1 := ⟨_, rfl⟩
        simp only [Act.put, List.setIfInBounds_toArray, List.set_cons_zero, List.set_cons_succ]
        refine till_one 18 rfl (by kernel_rfl) (fun K hK => ?_)
        have HK := Lib.hid hK
        clear hK
        refine step_append_vec (E := Elem.blks) rfl (.tmp 49) (.tmp 55) 29 rfl 35 i0 (.agg #[.int .u64 0, .int .u64 0, .int .u64 0]) 24 Try.underlying29 hi0 hz0 hz1 hz2 rfl u2 sv2 ([] ++ B.take i ++ [(a, n, g)]) (B.drop i) (by go_simp) (by go_simp) V2'.out (SQ.out _ BY.out).2 (by simp only [maxLen, List.nil_append, List.length_append, List.length_cons, List.length_nil]; omega) (by simp only [List.nil_append, List.length_append, List.length_cons, List.length_nil]; omega) ?_
        intro u3 y1 hv hu hin
        obtain ⟨a', c', ev, _⟩ := hv.slice'
        obtain ⟨m', hm'⟩ : ∃ m', ([] ++ B.take i ++ [(a, n, g)] ++ B.drop i).length = m' := ⟨_, rfl⟩
        rw [hm'] at ev
        subst ev
        have N3 : Hid (∀ k, In (.slice a' m' c') k → wa.heap.size ≤ k) := Lib.hid fun k hk => by rcases hin k hk with h | h; exact N2.out k h; exact Nat.le_trans BY.out.size h
        replace BY : Hid (Below wa.heap.size wa y1) := Lib.hid (below_in15 BY.out BY.out.size N2.out hu)
        have V3 := Lib.hid hv
        have K3 := Lib.hid (KB.out.upd (updFalse_of BY.out) (fun h => h))
        have cy : y1.cell? ⟨mb, 0, none⟩ = some (.slice a1 l c1s) := K3.out.cell 0
        have fy : y1.frozen? ⟨mb, 0, none⟩ = false := K3.out.frozen 0
        clear hv hin hm'
        refine HK.out _ _ (fun _ => SS.out _ BY.out) ?_
        clear hu HK K V2' N2 y
        obtain ⟨y, rfl⟩ : ∃ y, y = y1 := ⟨_, rfl⟩
        simp only [Act.put, List.setIfInBounds_toArray, List.set_cons_zero, List.set_cons_succ]
        refine till_one 19 rfl (by kernel_rfl) (fun K hK => ?_)
        have HK := Lib.hid hK
        clear hK
        go_simp
        refine HK.out _ _ (fun h => nomatch (show true = false from h)) ?_
        clear HK K
        simp only [Act.put, List.setIfInBounds_toArray, List.set_cons_zero, List.set_cons_succ]
        refine till_one 20 rfl (by kernel_rfl) (fun K hK => ?_)
        have HK := Lib.hid hK
        clear hK
        go_simp
        refine HK.out _ _ (fun h => nomatch (show true = false from h)) ?_
        clear HK K
        simp only [Act.put, List.setIfInBounds_toArray, List.set_cons_zero, List.set_cons_succ]
        refine till_one 21 rfl (by kernel_rfl) (fun K hK => ?_)
        have HK := Lib.hid hK
        clear hK
        go_simp
        refine HK.out _ _ (fun h => nomatch (show true = false from h)) ?_
        clear HK K
        simp only [Act.put, List.setIfInBounds_toArray, List.set_cons_zero, List.set_cons_succ]
        refine till_done (by kernel_rfl) ?_ _
        (try go_wp2_with fail)
        go_meet
        exact MidD.of K3.out KB.out.lt (by have := V3.out; rw [List.append_assoc] at this; exact this) N3.out V2.out (fun k hk => (J2.out k hk).2.1) BY.out
      · skip
        have HK := Lib.hid hK
        clear hK
        go_simp
        refine HK.out _ _ (fun _ => SS.out _ (BY.out.alloc BY.out.size _)) ?_
        clear HK K
        simp only [Act.put, List.setIfInBounds_toArray, List.set_cons_zero, List.set_cons_succ]
        obtain ⟨p2, hp⟩ : ∃ p, y.heap.size = p := ⟨_, rfl⟩
        have PN2 : Hid (wa.heap.size ≤ p2) := Lib.hid (by rw [← hp]; exact BY.out.size)
        obtain ⟨y1, hy, VB⟩ : ∃ y1, y.alloc (.cells #[.int .u64 (a : Int), .int .u64 (n : Int), .int .u64 (g : Int)] 35) = y1 ∧ Hid (Seq Elem.blks y1 (.slice (some ⟨p2, 0, none⟩) 1 1) [(a, n, g)]) := ⟨_, rfl, Lib.hid (by rw [← hp]; exact Seq.new y _ [(a, n, g)] 1)⟩
        have PP : Hid (p ≠ p2) := Lib.hid (by have := P1L.out; omega)
        replace V0 := Lib.hid (V0.out.alloc (.cells #[.int .u64 (a : Int), .int .u64 (n : Int), .int .u64 (g : Int)] 35))
        rw [hy] at V0
        have P2L : Hid (p2 < y1.heap.size) := Lib.hid (by rw [← hy, World.size_alloc]; omega)
        replace P1L := Lib.hid (Nat.lt_of_lt_of_le P1L.out (by rw [← hy, World.size_alloc]; exact Nat.le_succ _ : y.heap.size ≤ y1.heap.size))
        replace BY : Hid (Below wa.heap.size wa y1) := Lib.hid (by rw [← hy]; exact BY.out.alloc BY.out.size _)
        rw [hy, hp]
        clear hy hp
        clear y
        obtain ⟨y, rfl⟩ : ∃ y, y = y1 := ⟨_, rfl⟩
        refine till_one 8 rfl (by kernel_rfl) (fun K hK => ?_)
        have HK := Lib.hid hK
        clear hK
        refine step_append_vec (E := Elem.blks) rfl (.tmp 39) (.tmp 45) 29 rfl 35 i0 (.agg #[.int .u64 0, .int .u64 0, .int .u64 0]) 24 Try.underlying29 hi0 hz0 hz1 hz2 rfl (.slice (some ⟨p, 0, none⟩) 0 0) sv1 [] (B.take i) (by go_simp) (by go_simp) V0.out (SQ.out _ BY.out).1 (by simp only [maxLen, List.length_nil]; omega) (by simp only [List.length_nil]; omega) ?_
        intro u1 y1 hv hu hin
        replace BY : Hid (Below wa.heap.size wa y1) := Lib.hid (below_in15 BY.out BY.out.size (fun k hk => by rw [← in_at15 hk]; exact PN.out) hu)
        have N1 : Hid (∀ k, In u1 k → wa.heap.size ≤ k) := Lib.hid fun k hk => by rcases hin k hk with h | h; (rw [← in_at15 h]; exact PN.out); (have := P1L.out; have := PN.out; omega)
        replace VB := Lib.hid (VB.out.upd hu fun k hk hh => PP.out (by rw [in_at15 hh, in_at15 hk]))
        have V1 := Lib.hid hv
        clear hv hin
        refine HK.out _ _ (fun _ => SS.out _ BY.out) ?_
        clear hu HK K V0
        (try clear P1L)
        (try clear P2L)
        clear y
        obtain ⟨y, rfl⟩ : ∃ y, y = y1 := ⟨_, rfl⟩
        simp only [Act.put, List.setIfInBounds_toArray, List.set_cons_zero, List.set_cons_succ]
        refine till_one 11 rfl (by kernel_rfl) (fun K hK => ?_)
        have HK := Lib.hid hK
        clear hK
        refine step_append_vec (E := Elem.blks) rfl (.tmp 46) (.tmp 48) 29 rfl 35 i0 (.agg #[.int .u64 0, .int .u64 0, .int .u64 0]) 24 Try.underlying29 hi0 hz0 hz1 hz2 rfl u1 (.slice (some ⟨p2, 0, none⟩) 1 1) ([] ++ B.take i) [(a, n, g)] (by go_simp) (by go_simp) V1.out VB.out (by simp only [maxLen, List.nil_append, List.length_cons, List.length_nil]; omega) (by simp only [List.nil_append, List.length_cons, List.length_nil]; omega) ?_
        intro u2 y1 hv hu hin
        have N2 : Hid (∀ k, In u2 k → wa.heap.size ≤ k) := Lib.hid fun k hk => by rcases hin k hk with h | h; exact N1.out k h; exact Nat.le_trans BY.out.size h
        replace BY : Hid (Below wa.heap.size wa y1) := Lib.hid (below_in15 BY.out BY.out.size N1.out hu)
        have V2' := Lib.hid hv
        clear hv hin
        refine HK.out _ _ (fun _ => SS.out _ BY.out) ?_
        clear hu HK K V1 VB N1
        (try clear P1L)
        (try clear P2L)
        clear y
        obtain ⟨y, rfl⟩ : ∃ y, y = y1 := ⟨_, rfl⟩
        simp only [Act.put, List.setIfInBounds_toArray, List.set_cons_zero, List.set_cons_succ]
        refine till_one 18 rfl (by kernel_rfl) (fun K hK => ?_)
        have HK := Lib.hid hK
        clear hK
        refine step_append_vec (E := Elem.blks) rfl (.tmp 49) (.tmp 55) 29 rfl 35 i0 (.agg #[.int .u64 0, .int .u64 0, .int .u64 0]) 24 Try.underlying29 hi0 hz0 hz1 hz2 rfl u2 sv2 ([] ++ B.take i ++ [(a, n, g)]) (B.drop i) (by go_simp) (by go_simp) V2'.out (SQ.out _ BY.out).2 (by simp only [maxLen, List.nil_append, List.length_append, List.length_cons, List.length_nil]; omega) (by simp only [List.nil_append, List.length_append, List.length_cons, List.length_nil]; omega) ?_
        intro u3 y1 hv hu hin
        obtain ⟨a', c', ev, _⟩ := hv.slice'
        obtain ⟨m', hm'⟩ : ∃ m', ([] ++ B.take i ++ [(a, n, g)] ++ B.drop i).length = m' := ⟨_, rfl⟩
        rw [hm'] at ev
        subst ev
        have N3 : Hid (∀ k, In (.slice a' m' c') k → wa.heap.size ≤ k) := Lib.hid fun k hk => by rcases hin k hk with h | h; exact N2.out k h; exact Nat.le_trans BY.out.size h
        replace BY : Hid (Below wa.heap.size wa y1) := Lib.hid (below_in15 BY.out BY.out.size N2.out hu)
        have V3 := Lib.hid hv
        have K3 := Lib.hid (KB.out.upd (updFalse_of BY.out) (fun h => h))
        have cy : y1.cell? ⟨mb, 0, none⟩ = some (.slice a1 l c1s) := K3.out.cell 0
        have fy : y1.frozen? ⟨mb, 0, none⟩ = false := K3.out.frozen 0
        clear hv hin hm'
        refine HK.out _ _ (fun _ => SS.out _ BY.out) ?_
        clear hu HK K V2' N2 y
        obtain ⟨y, rfl⟩ : ∃ y, y = y1 := ⟨_, rfl⟩
        simp only [Act.put, List.setIfInBounds_toArray, List.set_cons_zero, List.set_cons_succ]
        refine till_one 19 rfl (by kernel_rfl) (fun K hK => ?_)
        have HK := Lib.hid hK
        clear hK
        go_simp
        refine HK.out _ _ (fun h => nomatch (show true = false from h)) ?_
        clear HK K
        simp only [Act.put, List.setIfInBounds_toArray, List.set_cons_zero, List.set_cons_succ]
        refine till_one 20 rfl (by kernel_rfl) (fun K hK => ?_)
        have HK := Lib.hid hK
        clear hK
        go_simp
        refine HK.out _ _ (fun h => nomatch (show true = false from h)) ?_
        clear HK K
        simp only [Act.put, List.setIfInBounds_toArray, List.set_cons_zero, List.set_cons_succ]
        refine till_one 21 rfl (by kernel_rfl) (fun K hK => ?_)
        have HK := Lib.hid hK
        clear hK
        go_simp
        refine HK.out _ _ (fun h => nomatch (show true = false from h)) ?_
        clear HK K
        simp only [Act.put, List.setIfInBounds_toArray, List.set_cons_zero, List.set_cons_succ]
        refine till_done (by kernel_rfl) ?_ _
        (try go_wp2_with fail)
        go_meet
        exact MidD.of K3.out KB.out.lt (by have := V3.out; rw [List.append_assoc] at this; exact this) N3.out V2.out (fun k hk => (J2.out k hk).2.1) BY.out
    · skip
      have HK := Lib.hid hK
      clear hK
      go_simp
      refine HK.out _ _ (fun _ => SS.out _ (BY.out.alloc BY.out.size _)) ?_
      clear HK K
      simp only [Act.put, List.setIfInBounds_toArray, List.set_cons_zero, List.set_cons_succ]
      obtain ⟨p2, hp⟩ : ∃ p, y.heap.size = p := ⟨_, rfl⟩
      have PN2 : Hid (wa.heap.size ≤ p2) := Lib.hid (by rw [← hp]; exact BY.out.size)
      obtain ⟨y1, hy, VB⟩ : ∃ y1, y.alloc (.cells #[.int .u64 (a : Int), .int .u64 (n : Int), .int .u64 (g : Int)] 35) = y1 ∧ Hid (Seq Elem.blks y1 (.slice (some ⟨p2, 0, none⟩) 1 1) [(a, n, g)]) := ⟨_, rfl, Lib.hid (by rw [← hp]; exact Seq.new y _ [(a, n, g)] 1)⟩
      have P2L : Hid (p2 < y1.heap.size) := Lib.hid (by rw [← hy, World.size_alloc]; omega)
      replace BY : Hid (Below wa.heap.size wa y1) := Lib.hid (by rw [← hy]; exact BY.out.alloc BY.out.size _)
      rw [hy, hp]
      clear hy hp
      clear y
      obtain ⟨y, rfl⟩ : ∃ y, y = y1 := ⟨_, rfl⟩
      refine till_one 1 rfl (by kernel_rfl) (fun K hK => ?_)
      have HK := Lib.hid hK
      clear hK
      go_simp
      refine HK.out _ _ (fun _ => SS.out _ (BY.out.alloc BY.out.size _)) ?_
      clear HK K
      simp only [Act.put, List.setIfInBounds_toArray, List.set_cons_zero, List.set_cons_succ]
      obtain ⟨p, hp⟩ : ∃ p, y.heap.size = p := ⟨_, rfl⟩
      have PN : Hid (wa.heap.size ≤ p) := Lib.hid (by rw [← hp]; exact BY.out.size)
      obtain ⟨y1, hy, V0⟩ : ∃ y1, y.alloc (.cells #[] 35) = y1 ∧ Hid (Vec Elem.blks y1 (.slice (some ⟨p, 0, none⟩) 0 0) []) := ⟨_, rfl, Lib.hid (newAt15 y _ _ hp.symm)⟩
      have PP : Hid (p ≠ p2) := Lib.hid (by have := P2L.out; omega)
      replace VB := Lib.hid (VB.out.alloc (.cells #[] 35))
      rw [hy] at VB
      have P1L : Hid (p < y1.heap.size) := Lib.hid (by rw [← hy, World.size_alloc]; omega)
      replace P2L := Lib.hid (Nat.lt_of_lt_of_le P2L.out (by rw [← hy, World.size_alloc]; exact Nat.le_succ _ : y.heap.size ≤ y1.heap.size))
      replace BY : Hid (Below wa.heap.size wa y1) := Lib.hid (by rw [← hy]; exact BY.out.alloc BY.out.size _)
      rw [hy, hp]
      clear hy hp
      clear y
      obtain ⟨y, rfl⟩ : ∃ y, y = y1 := ⟨_, rfl⟩
      refine till_one 8 rfl (by kernel_rfl) (fun K hK => ?_)
      have HK := Lib.hid hK
      clear hK
      refine step_append_vec (E := Elem.blks) rfl (.tmp 39) (.tmp 45) 29 rfl 35 i0 (.agg #[.int .u64 0, .int .u64 0, .int .u64 0]) 24 Try.underlying29 hi0 hz0 hz1 hz2 rfl (.slice (some ⟨p, 0, none⟩) 0 0) sv1 [] (B.take i) (by go_simp) (by go_simp) V0.out (SQ.out _ BY.out).1 (by simp only [maxLen, List.length_nil]; omega) (by simp only [List.length_nil]; omega) ?_
      intro u1 y1 hv hu hin
      replace BY : Hid (Below wa.heap.size wa y1) := Lib.hid (below_in15 BY.out BY.out.size (fun k hk => by rw [← in_at15 hk]; exact PN.out) hu)
      have N1 : Hid (∀ k, In u1 k → wa.heap.size ≤ k) := Lib.hid fun k hk => by rcases hin k hk with h | h; (rw [← in_at15 h]; exact PN.out); (have := P1L.out; have := PN.out; omega)
      replace VB := Lib.hid (VB.out.upd hu fun k hk hh => PP.out (by rw [in_at15 hh, in_at15 hk]))
      have V1 := Lib.hid hv
      clear hv hin
      refine HK.out _ _ (fun _ => SS.out _ BY.out) ?_
      clear hu HK K V0
      (try clear P1L)
      (try clear P2L)
      clear y
      obtain ⟨y, rfl⟩ : ∃ y, y = y1 := ⟨_, rfl⟩
      simp only [Act.put, List.setIfInBounds_toArray, List.set_cons_zero, List.set_cons_succ]
      refine till_one 11 rfl (by kernel_rfl) (fun K hK => ?_)
      have HK := Lib.hid hK
      clear hK
      refine step_append_vec (E := Elem.blks) rfl (.tmp 46) (.tmp 48) 29 rfl 35 i0 (.agg #[.int .u64 0, .int .u64 0, .int .u64 0]) 24 Try.underlying29 hi0 hz0 hz1 hz2 rfl u1 (.slice (some ⟨p2, 0, none⟩) 1 1) ([] ++ B.take i) [(a, n, g)] (by go_simp) (by go_simp) V1.out VB.out (by simp only [maxLen, List.nil_append, List.length_cons, List.length_nil]; omega) (by simp only [List.nil_append, List.length_cons, List.length_nil]; omega) ?_
      intro u2 y1 hv hu hin
      have N2 : Hid (∀ k, In u2 k → wa.heap.size ≤ k) := Lib.hid fun k hk => by rcases hin k hk with h | h; exact N1.out k h; exact Nat.le_trans BY.out.size h
      replace BY : Hid (Below wa.heap.size wa y1) := Lib.hid (below_in15 BY.out BY.out.size N1.out hu)
      have V2' := Lib.hid hv
      clear hv hin
      refine HK.out _ _ (fun _ => SS.out _ BY.out) ?_
      clear hu HK K V1 VB N1
      (try clear P1L)
      (try clear P2L)
      clear y
      obtain ⟨y, rfl⟩ : ∃ y, y = y1 := ⟨_, rfl⟩
      simp only [Act.put, List.setIfInBounds_toArray, List.set_cons_zero, List.set_cons_succ]
      refine till_one 18 rfl (by kernel_rfl) (fun K hK => ?_)
      have HK := Lib.hid hK
      clear hK
      refine step_append_vec (E := Elem.blks) rfl (.tmp 49) (.tmp 55) 29 rfl 35 i0 (.agg #[.int .u64 0, .int .u64 0, .int .u64 0]) 24 Try.underlying29 hi0 hz0 hz1 hz2 rfl u2 sv2 ([] ++ B.take i ++ [(a, n, g)]) (B.drop i) (by go_simp) (by go_simp) V2'.out (SQ.out _ BY.out).2 (by simp only [maxLen, List.nil_append, List.length_append, List.length_cons, List.length_nil]; omega) (by simp only [List.nil_append, List.length_append, List.length_cons, List.length_nil]; omega) ?_
      intro u3 y1 hv hu hin
      obtain ⟨a', c', ev, _⟩ := hv.slice'
      obtain ⟨m', hm'⟩ : ∃ m', ([] ++ B.take i ++ [(a, n, g)] ++ B.drop i).length = m' := ⟨_, rfl⟩
      rw [hm'] at ev
      subst ev
      have N3 : Hid (∀ k, In (.slice a' m' c') k → wa.heap.size ≤ k) := Lib.hid fun k hk => by rcases hin k hk with h | h; exact N2.out k h; exact Nat.le_trans BY.out.size h
      replace BY : Hid (Below wa.heap.size wa y1) := Lib.hid (below_in15 BY.out BY.out.size N2.out hu)
      have V3 := Lib.hid hv
      have K3 := Lib.hid (KB.out.upd (updFalse_of BY.out) (fun h => h))
      have cy : y1.cell? ⟨mb, 0, none⟩ = some (.slice a1 l c1s) := K3.out.cell 0
      have fy : y1.frozen? ⟨mb, 0, none⟩ = false := K3.out.frozen 0
      clear hv hin hm'
      refine HK.out _ _ (fun _ => SS.out _ BY.out) ?_
      clear hu HK K V2' N2 y
      obtain ⟨y, rfl⟩ : ∃ y, y = y1 := ⟨_, rfl⟩
      simp only [Act.put, List.setIfInBounds_toArray, List.set_cons_zero, List.set_cons_succ]
      refine till_one 19 rfl (by kernel_rfl) (fun K hK => ?_)
      have HK := Lib.hid hK
      clear hK
      go_simp
      refine HK.out _ _ (fun h => nomatch (show true = false from h)) ?_
      clear HK K
      simp only [Act.put, List.setIfInBounds_toArray, List.set_cons_zero, List.set_cons_succ]
      refine till_one 20 rfl (by kernel_rfl) (fun K hK => ?_)
      have HK := Lib.hid hK
      clear hK
      go_simp
      refine HK.out _ _ (fun h => nomatch (show true = false from h)) ?_
      clear HK K
      simp only [Act.put, List.setIfInBounds_toArray, List.set_cons_zero, List.set_cons_succ]
      refine till_one 21 rfl (by kernel_rfl) (fun K hK => ?_)
      have HK := Lib.hid hK
      clear hK
      go_simp
      refine HK.out _ _ (fun h => nomatch (show true = false from h)) ?_
      clear HK K
      simp only [Act.put, List.setIfInBounds_toArray, List.set_cons_zero, List.set_cons_succ]
      refine till_done (by kernel_rfl) ?_ _
      (try go_wp2_with fail)
      go_meet
      exact MidD.of K3.out KB.out.lt (by have := V3.out; rw [List.append_assoc] at this; exact this) N3.out V2.out (fun k hk => (J2.out k hk).2.1) BY.out
  have MD := Lib.hid hcut
  obtain ⟨⟨v1, m0, m1, m2⟩, m3, m4⟩ := hcut
  obtain ⟨wb, rfl⟩ : ∃ wb, wb = wc := ⟨wc, rfl⟩
  have KC := Lib.hid m0; have VC := Lib.hid m3
  have EB := Lib.hid (show (M.take i ++ ⟨a, n, g, false⟩ :: M.drop i).map En.b = B.take i ++ (a, n, g) :: B.drop i by rw [List.map_append, List.map_take, List.map_cons, List.map_drop, HB.out]; rfl)
  have EF := Lib.hid (show (M.take i ++ ⟨a, n, g, false⟩ :: M.drop i).map En.h = F.take i ++ false :: F.drop i by rw [List.map_append, List.map_take, List.map_cons, List.map_drop, HF.out])
  have TM := Lib.hid H.out.tm
  have SB := Lib.hid ST.out.below
  have ML := Lib.hid KB.out.lt
  clear m0 m1 m2 m3 m4 c0 c1 c2 ST
  go_upto_region 9 with fail
  obtain ⟨i0, hi0, hz0, hz1, hz2⟩ := info_parts infoBo
  obtain ⟨sv1, hs1, hi1, hq1⟩ := cut_to (E := Elem.bools) (P := Try.prog) 30 Try.underlying30 sizeBo a2 l c2s i (by omega)
  obtain ⟨sv2, hs2, hi2, hq2, _⟩ := cut_from (E := Elem.bools) (P := Try.prog) 30 Try.underlying30 sizeBo a2 l c2s i (by omega) hc2
  have len1 : (F.take i).length ≤ 1048576 := by rw [List.length_take, LF.out]; omega
  have len2 : (F.drop i).length ≤ 1048576 := by rw [List.length_drop, LF.out]; omega
  have SQ : Hid (∀ w', Below wb.heap.size wb w' → Seq Elem.bools w' sv1 (F.take i) ∧ Seq Elem.bools w' sv2 (F.drop i)) := Lib.hid fun w' hb => by
    have qs := VC.out.seq.below (Nat.le_refl _) hb
    exact ⟨hq1 _ _ qs (by omega), hq2 _ _ qs⟩
  have SS : Hid (∀ y, Below wb.heap.size wb y → y.cell? ⟨mb, 1, none⟩ = some (.slice a2 l c2s)) := Lib.hid fun y hb => (KC.out.upd (updFalse_of hb) (fun h => h)).cell 1
  clear hi1 hq1 hi2 hq2
  refine till_start (fun y => y.cell? ⟨mb, 1, none⟩ = some (.slice a2 l c2s)) 18 (by kernel_rfl) ?_
  change Till _ _ _ _ _ _ 21 #[false, false, false, false, false, false, false, false, false, false, false, false, false, false, false, false, false, false, false, false, false] _ _
  have hS := SS.out wb.drew (Below.refl _ wb).drew
  refine till_take 0 (.pointer (some ⟨mb, 0, none⟩)) rfl rfl (by kernel_rfl) (by kernel_rfl) (by kernel_rfl) (by kernel_rfl) (by kernel_rfl) (by kernel_rfl) (fun _ _ _ h => h) (by rfl) (by intro w hSw; (try dsimp only at hSw); go_simp) hS ?_
  simp only [Act.put, List.setIfInBounds_toArray, List.set_cons_zero, List.set_cons_succ]
  refine till_take 2 (.pointer (some ⟨mb, 0, none⟩)) rfl rfl (by kernel_rfl) (by kernel_rfl) (by kernel_rfl) (by kernel_rfl) (by kernel_rfl) (by kernel_rfl) (fun _ _ _ h => h) (by rfl) (by intro w hSw; (try dsimp only at hSw); go_simp) hS ?_
  simp only [Act.put, List.setIfInBounds_toArray, List.set_cons_zero, List.set_cons_succ]
  refine till_take 3 (.pointer (some ⟨mb, 0, none⟩)) rfl rfl (by kernel_rfl) (by kernel_rfl) (by kernel_rfl) (by kernel_rfl) (by kernel_rfl) (by kernel_rfl) (fun _ _ _ h => h) (by rfl) (by intro w hSw; (try dsimp only at hSw); go_simp) hS ?_
  simp only [Act.put, List.setIfInBounds_toArray, List.set_cons_zero, List.set_cons_succ]
  refine till_take 4 (.pointer (some ⟨mb, 1, none⟩)) rfl rfl (by kernel_rfl) (by kernel_rfl) (by kernel_rfl) (by kernel_rfl) (by kernel_rfl) (by kernel_rfl) (fun _ _ _ h => h) (by rfl) (by intro w hSw; (try dsimp only at hSw); go_simp) hS ?_
  simp only [Act.put, List.setIfInBounds_toArray, List.set_cons_zero, List.set_cons_succ]
  refine till_take 5 (.slice a2 l c2s) rfl rfl (by kernel_rfl) (by kernel_rfl) (by kernel_rfl) (by kernel_rfl) (by kernel_rfl) (by kernel_rfl) (fun _ _ _ h => h) (by rfl) (by intro w hSw; (try dsimp only at hSw); go_simp) hS ?_
  simp only [Act.put, List.setIfInBounds_toArray, List.set_cons_zero, List.set_cons_succ]
  refine till_take 6 (.int .i64 (i : Int)) rfl rfl (by kernel_rfl) (by kernel_rfl) (by kernel_rfl) (by kernel_rfl) (by kernel_rfl) (by kernel_rfl) (fun _ _ _ h => h) (by rfl) (by intro w hSw; (try dsimp only at hSw); go_simp) hS ?_
  simp only [Act.put, List.setIfInBounds_toArray, List.set_cons_zero, List.set_cons_succ]
  refine till_take 7 (sv1) rfl rfl (by kernel_rfl) (by kernel_rfl) (by kernel_rfl) (by kernel_rfl) (by kernel_rfl) (by kernel_rfl) (fun _ _ _ h => h) (by rfl) (by intro w hSw; (try dsimp only at hSw); go_simp) hS ?_
  simp only [Act.put, List.setIfInBounds_toArray, List.set_cons_zero, List.set_cons_succ]
  refine till_take 11 (.pointer (some ⟨mb, 0, none⟩)) rfl rfl (by kernel_rfl) (by kernel_rfl) (by kernel_rfl) (by kernel_rfl) (by kernel_rfl) (by kernel_rfl) (fun _ _ _ h => h) (by rfl) (by intro w hSw; (try dsimp only at hSw); go_simp) hS ?_
  simp only [Act.put, List.setIfInBounds_toArray, List.set_cons_zero, List.set_cons_succ]
  refine till_take 12 (.pointer (some ⟨mb, 0, none⟩)) rfl rfl (by kernel_rfl) (by kernel_rfl) (by kernel_rfl) (by kernel_rfl) (by kernel_rfl) (by kernel_rfl) (fun _ _ _ h => h) (by rfl) (by intro w hSw; (try dsimp only at hSw); go_simp) hS ?_
  simp only [Act.put, List.setIfInBounds_toArray, List.set_cons_zero, List.set_cons_succ]
  refine till_take 13 (.pointer (some ⟨mb, 1, none⟩)) rfl rfl (by kernel_rfl) (by kernel_rfl) (by kernel_rfl) (by kernel_rfl) (by kernel_rfl) (by kernel_rfl) (fun _ _ _ h => h) (by rfl) (by intro w hSw; (try dsimp only at hSw); go_simp) hS ?_
  simp only [Act.put, List.setIfInBounds_toArray, List.set_cons_zero, List.set_cons_succ]
  refine till_take 14 (.slice a2 l c2s) rfl rfl (by kernel_rfl) (by kernel_rfl) (by kernel_rfl) (by kernel_rfl) (by kernel_rfl) (by kernel_rfl) (fun _ _ _ h => h) (by rfl) (by intro w hSw; (try dsimp only at hSw); go_simp) hS ?_
  simp only [Act.put, List.setIfInBounds_toArray, List.set_cons_zero, List.set_cons_succ]
  refine till_take 15 (.int .i64 (i : Int)) rfl rfl (by kernel_rfl) (by kernel_rfl) (by kernel_rfl) (by kernel_rfl) (by kernel_rfl) (by kernel_rfl) (fun _ _ _ h => h) (by rfl) (by intro w hSw; (try dsimp only at hSw); go_simp) hS ?_
  simp only [Act.put, List.setIfInBounds_toArray, List.set_cons_zero, List.set_cons_succ]
  refine till_take 16 (sv2) rfl rfl (by kernel_rfl) (by kernel_rfl) (by kernel_rfl) (by kernel_rfl) (by kernel_rfl) (by kernel_rfl) (fun _ _ _ h => h) (by rfl) (by intro w hSw; (try dsimp only at hSw); go_simp) hS ?_
  simp only [Act.put, List.setIfInBounds_toArray, List.set_cons_zero, List.set_cons_succ]
  clear hS
  obtain ⟨y, hy⟩ : ∃ y, wb.drew = y := ⟨_, rfl⟩
  have BY : Hid (Below wb.heap.size wb y) := Lib.hid (by rw [← hy]; exact (Below.refl _ wb).drew)
  rw [hy]
  clear hy
  refine till_two 1 9 rfl rfl (by kernel_rfl) (fun K hK => ?_) (fun K hK => ?_)
  · skip
    have HK := Lib.hid hK
    clear hK
    go_simp
    refine HK.out _ _ (fun _ => SS.out _ (BY.out.alloc BY.out.size _)) ?_
    clear HK K
    simp only [Act.put, List.setIfInBounds_toArray, List.set_cons_zero, List.set_cons_succ]
    obtain ⟨p, hp⟩ : ∃ p, y.heap.size = p := ⟨_, rfl⟩
    have PN : Hid (wb.heap.size ≤ p) := Lib.hid (by rw [← hp]; exact BY.out.size)
    obtain ⟨y1, hy, V0⟩ : ∃ y1, y.alloc (.cells #[] 4) = y1 ∧ Hid (Vec Elem.bools y1 (.slice (some ⟨p, 0, none⟩) 0 0) []) := ⟨_, rfl, Lib.hid (newAt15 y _ _ hp.symm)⟩
    have P1L : Hid (p < y1.heap.size) := Lib.hid (by rw [← hy, World.size_alloc]; omega)
    replace BY : Hid (Below wb.heap.size wb y1) := Lib.hid (by rw [← hy]; exact BY.out.alloc BY.out.size _)
    rw [hy, hp]
    clear hy hp
    clear y
    obtain ⟨y, rfl⟩ : ∃ y, y = y1 := ⟨_, rfl⟩
    refine till_two 8 9 rfl rfl (by kernel_rfl) (fun K hK => ?_) (fun K hK => ?_)
    · skip
      have HK := Lib.hid hK
      clear hK
      refine step_append_vec (E := Elem.bools) rfl (.tmp 60) (.tmp 66) 30 rfl 4 i0 (.bool false) 1 Try.underlying30 hi0 hz0 hz1 hz2 rfl (.slice (some ⟨p, 0, none⟩) 0 0) sv1 [] (F.take i) (by go_simp) (by go_simp) V0.out (SQ.out _ BY.out).1 (by simp only [maxLen, List.length_nil]; omega) (by simp only [List.length_nil]; omega) ?_
      intro u1 y1 hv hu hin
      replace BY : Hid (Below wb.heap.size wb y1) := Lib.hid (below_in15 BY.out BY.out.size (fun k hk => by rw [← in_at15 hk]; exact PN.out) hu)
      have N1 : Hid (∀ k, In u1 k → wb.heap.size ≤ k) := Lib.hid fun k hk => by rcases hin k hk with h | h; (rw [← in_at15 h]; exact PN.out); (have := P1L.out; have := PN.out; omega)
      have V1 := Lib.hid hv
      clear hv hin
      refine HK.out _ _ (fun _ => SS.out _ BY.out) ?_
      clear hu HK K V0
      (try clear P1L)
      (try clear P2L)
      clear y
      obtain ⟨y, rfl⟩ : ∃ y, y = y1 := ⟨_, rfl⟩
      simp only [Act.put, List.setIfInBounds_toArray, List.set_cons_zero, List.set_cons_succ]
      refine till_one 9 rfl (by kernel_rfl) (fun K hK => ?_)
      have HK := Lib.hid hK
      clear hK
      go_simp
      refine HK.out _ _ (fun _ => SS.out _ (BY.out.alloc BY.out.size _)) ?_
      clear HK K
      simp only [Act.put, List.setIfInBounds_toArray, List.set_cons_zero, List.set_cons_succ]
      obtain ⟨p2, hp⟩ : ∃ p, y.heap.size = p := ⟨_, rfl⟩
      have PN2 : Hid (wb.heap.size ≤ p2) := Lib.hid (by rw [← hp]; exact BY.out.size)
      obtain ⟨y1, hy, VB⟩ : ∃ y1, y.alloc (.cells #[.bool false] 4) = y1 ∧ Hid (Seq Elem.bools y1 (.slice (some ⟨p2, 0, none⟩) 1 1) [false]) := ⟨_, rfl, Lib.hid (by rw [← hp]; exact Seq.new y _ [false] 1)⟩
      replace V1 := Lib.hid (V1.out.alloc (.cells #[.bool false] 4))
      rw [hy] at V1
      have P2L : Hid (p2 < y1.heap.size) := Lib.hid (by rw [← hy, World.size_alloc]; omega)
      replace BY : Hid (Below wb.heap.size wb y1) := Lib.hid (by rw [← hy]; exact BY.out.alloc BY.out.size _)
      rw [hy, hp]
      clear hy hp
      clear y
      obtain ⟨y, rfl⟩ : ∃ y, y = y1 := ⟨_, rfl⟩
      refine till_one 10 rfl (by kernel_rfl) (fun K hK => ?_)
      have HK := Lib.hid hK
      clear hK
      refine step_append_vec (E := Elem.bools) rfl (.tmp 67) (.tmp 68) 30 rfl 4 i0 (.bool false) 1 Try.underlying30 hi0 hz0 hz1 hz2 rfl u1 (.slice (some ⟨p2, 0, none⟩) 1 1) ([] ++ F.take i) [false] (by go_simp) (by go_simp) V1.out VB.out (by simp only [maxLen, List.nil_append, List.length_cons, List.length_nil]; omega) (by simp only [List.nil_append, List.length_cons, List.length_nil]; omega) ?_
      intro u2 y1 hv hu hin
      have N2 : Hid (∀ k, In u2 k → wb.heap.size ≤ k) := Lib.hid fun k hk => by rcases hin k hk with h | h; exact N1.out k h; exact Nat.le_trans BY.out.size h
      replace BY : Hid (Below wb.heap.size wb y1) := Lib.hid (below_in15 BY.out BY.out.size N1.out hu)
      have V2' := Lib.hid hv
      clear hv hin
      refine HK.out _ _ (fun _ => SS.out _ BY.out) ?_
      clear hu HK K V1 VB N1
      (try clear P1L)
      (try clear P2L)
      clear y
      obtain ⟨y, rfl⟩ : ∃ y, y = y1 := ⟨_, rfl⟩
      simp only [Act.put, List.setIfInBounds_toArray, List.set_cons_zero, List.set_cons_succ]
      refine till_one 17 rfl (by kernel_rfl) (fun K hK => ?_)
      have HK := Lib.hid hK
      clear hK
      refine step_append_vec (E := Elem.bools) rfl (.tmp 69) (.tmp 75) 30 rfl 4 i0 (.bool false) 1 Try.underlying30 hi0 hz0 hz1 hz2 rfl u2 sv2 ([] ++ F.take i ++ [false]) (F.drop i) (by go_simp) (by go_simp) V2'.out (SQ.out _ BY.out).2 (by simp only [maxLen, List.nil_append, List.length_append, List.length_cons, List.length_nil]; omega) (by simp only [List.nil_append, List.length_append, List.length_cons, List.length_nil]; omega) ?_
      intro u3 y1 hv hu hin
      obtain ⟨a', c', ev, _⟩ := hv.slice'
      obtain ⟨m', hm'⟩ : ∃ m', ([] ++ F.take i ++ [false] ++ F.drop i).length = m' := ⟨_, rfl⟩
      rw [hm'] at ev
      subst ev
      have N3 : Hid (∀ k, In (.slice a' m' c') k → wb.heap.size ≤ k) := Lib.hid fun k hk => by rcases hin k hk with h | h; exact N2.out k h; exact Nat.le_trans BY.out.size h
      replace BY : Hid (Below wb.heap.size wb y1) := Lib.hid (below_in15 BY.out BY.out.size N2.out hu)
      have V3 := Lib.hid hv
      have K3 := Lib.hid (KC.out.upd (updFalse_of BY.out) (fun h => h))
      have cy : y1.cell? ⟨mb, 1, none⟩ = some (.slice a2 l c2s) := K3.out.cell 1
      have fy : y1.frozen? ⟨mb, 1, none⟩ = false := K3.out.frozen 1
      clear hv hin hm'
      refine HK.out _ _ (fun _ => SS.out _ BY.out) ?_
      clear hu HK K V2' N2 y
      obtain ⟨y, rfl⟩ : ∃ y, y = y1 := ⟨_, rfl⟩
      simp only [Act.put, List.setIfInBounds_toArray, List.set_cons_zero, List.set_cons_succ]
      refine till_one 18 rfl (by kernel_rfl) (fun K hK => ?_)
      have HK := Lib.hid hK
      clear hK
      go_simp
      refine HK.out _ _ (fun h => nomatch (show true = false from h)) ?_
      clear HK K
      simp only [Act.put, List.setIfInBounds_toArray, List.set_cons_zero, List.set_cons_succ]
      refine till_one 19 rfl (by kernel_rfl) (fun K hK => ?_)
      have HK := Lib.hid hK
      clear hK
      go_simp
      refine HK.out _ _ (fun h => nomatch (show true = false from h)) ?_
      clear HK K
      simp only [Act.put, List.setIfInBounds_toArray, List.set_cons_zero, List.set_cons_succ]
      refine till_one 20 rfl (by kernel_rfl) (fun K hK => ?_)
      have HK := Lib.hid hK
      clear hK
      go_simp
      refine HK.out _ _ (fun h => nomatch (show true = false from h)) ?_
      clear HK K
      simp only [Act.put, List.setIfInBounds_toArray, List.set_cons_zero, List.set_cons_succ]
      refine till_done (by kernel_rfl) ?_ _
      (try go_wp2_with fail)
      go_ret
      obtain ⟨d1, d2⟩ := MD.out.done (L := M) (L1 := F.take i) (L2 := false :: F.drop i) (M := M.take i ++ ⟨a, n, g, false⟩ :: M.drop i) (by rw [← IA.out]; exact GI.out) TM.out ML.out SB.out EB.out EF.out (by have := V3.out; rw [List.append_assoc] at this; exact this) N3.out BY.out
      exact ⟨by rw [E.out]; rfl, by rw [E.out, IA.out]; exact d1, d2⟩
    · skip
      have HK := Lib.hid hK
      clear hK
      go_simp
      refine HK.out _ _ (fun _ => SS.out _ (BY.out.alloc BY.out.size _)) ?_
      clear HK K
      simp only [Act.put, List.setIfInBounds_toArray, List.set_cons_zero, List.set_cons_succ]
      obtain ⟨p2, hp⟩ : ∃ p, y.heap.size = p := ⟨_, rfl⟩
      have PN2 : Hid (wb.heap.size ≤ p2) := Lib.hid (by rw [← hp]; exact BY.out.size)
      obtain ⟨y1, hy, VB⟩ : ∃ y1, y.alloc (.cells #[.bool false] 4) = y1 ∧ Hid (Seq Elem.bools y1 (.slice (some ⟨p2, 0, none⟩) 1 1) [false]) := ⟨_, rfl, Lib.hid (by rw [← hp]; exact Seq.new y _ [false] 1)⟩
      have PP : Hid (p ≠ p2) := Lib.hid (by have := P1L.out; omega)
      replace V0 := Lib.hid (V0.out.alloc (.cells #[.bool false] 4))
      rw [hy] at V0
      have P2L : Hid (p2 < y1.heap.size) := Lib.hid (by rw [← hy, World.size_alloc]; omega)
      replace P1L := Lib.hid (Nat.lt_of_lt_of_le P1L.out (by rw [← hy, World.size_alloc]; exact Nat.le_succ _ : y.heap.size ≤ y1.heap.size))
      replace BY : Hid (Below wb.heap.size wb y1) := Lib.hid (by rw [← hy]; exact BY.out.alloc BY.out.size _)
      rw [hy, hp]
      clear hy hp
      clear y
      obtain ⟨y, rfl⟩ : ∃ y, y = y1 := ⟨_, rfl⟩
      refine till_one 8 rfl (by kernel_rfl) (fun K hK => ?_)
      have HK := Lib.hid hK
      clear hK
      refine step_append_vec (E := Elem.bools) rfl (.tmp 60) (.tmp 66) 30 rfl 4 i0 (.bool false) 1 Try.underlying30 hi0 hz0 hz1 hz2 rfl (.slice (some ⟨p, 0, none⟩) 0 0) sv1 [] (F.take i) (by go_simp) (by go_simp) V0.out (SQ.out _ BY.out).1 (by simp only [maxLen, List.length_nil]; omega) (by simp only [List.length_nil]; omega) ?_
      intro u1 y1 hv hu hin
      replace BY : Hid (Below wb.heap.size wb y1) := Lib.hid (below_in15 BY.out BY.out.size (fun k hk => by rw [← in_at15 hk]; exact PN.out) hu)
      have N1 : Hid (∀ k, In u1 k → wb.heap.size ≤ k) := Lib.hid fun k hk => by rcases hin k hk with h | h; (rw [← in_at15 h]; exact PN.out); (have := P1L.out; have := PN.out; omega)
      replace VB := Lib.hid (VB.out.upd hu fun k hk hh => PP.out (by rw [in_at15 hh, in_at15 hk]))
      have V1 := Lib.hid hv
      clear hv hin
      refine HK.out _ _ (fun _ => SS.out _ BY.out) ?_
      clear hu HK K V0
      (try clear P1L)
      (try clear P2L)
      clear y
      obtain ⟨y, rfl⟩ : ∃ y, y = y1 := ⟨_, rfl⟩
      simp only [Act.put, List.setIfInBounds_toArray, List.set_cons_zero, List.set_cons_succ]
      refine till_one 10 rfl (by kernel_rfl) (fun K hK => ?_)
      have HK := Lib.hid hK
      clear hK
      refine step_append_vec (E := Elem.bools) rfl (.tmp 67) (.tmp 68) 30 rfl 4 i0 (.bool false) 1 Try.underlying30 hi0 hz0 hz1 hz2 rfl u1 (.slice (some ⟨p2, 0, none⟩) 1 1) ([] ++ F.take i) [false] (by go_simp) (by go_simp) V1.out VB.out (by simp only [maxLen, List.nil_append, List.length_cons, List.length_nil]; omega) (by simp only [List.nil_append, List.length_cons, List.length_nil]; omega) ?_
      intro u2 y1 hv hu hin
      have N2 : Hid (∀ k, In u2 k → wb.heap.size ≤ k) := Lib.hid fun k hk => by rcases hin k hk with h | h; exact N1.out k h; exact Nat.le_trans BY.out.size h
      replace BY : Hid (Below wb.heap.size wb y1) := Lib.hid (below_in15 BY.out BY.out.size N1.out hu)
      have V2' := Lib.hid hv
      clear hv hin
      refine HK.out _ _ (fun _ => SS.out _ BY.out) ?_
      clear hu HK K V1 VB N1
      (try clear P1L)
      (try clear P2L)
      clear y
      obtain ⟨y, rfl⟩ : ∃ y, y = y1 := ⟨_, rfl⟩
      simp only [Act.put, List.setIfInBounds_toArray, List.set_cons_zero, List.set_cons_succ]
      refine till_one 17 rfl (by kernel_rfl) (fun K hK => ?_)
      have HK := Lib.hid hK
      clear hK
      refine step_append_vec (E := Elem.bools) rfl (.tmp 69) (.tmp 75) 30 rfl 4 i0 (.bool false) 1 Try.underlying30 hi0 hz0 hz1 hz2 rfl u2 sv2 ([] ++ F.take i ++ [false]) (F.drop i) (by go_simp) (by go_simp) V2'.out (SQ.out _ BY.out).2 (by simp only [maxLen, List.nil_append, List.length_append, List.length_cons, List.length_nil]; omega) (by simp only [List.nil_append, List.length_append, List.length_cons, List.length_nil]; omega) ?_
      intro u3 y1 hv hu hin
      obtain ⟨a', c', ev, _⟩ := hv.slice'
      obtain ⟨m', hm'⟩ : ∃ m', ([] ++ F.take i ++ [false] ++ F.drop i).length = m' := ⟨_, rfl⟩
      rw [hm'] at ev
      subst ev
      have N3 : Hid (∀ k, In (.slice a' m' c') k → wb.heap.size ≤ k) := Lib.hid fun k hk => by rcases hin k hk with h | h; exact N2.out k h; exact Nat.le_trans BY.out.size h
      replace BY : Hid (Below wb.heap.size wb y1) := Lib.hid (below_in15 BY.out BY.out.size N2.out hu)
      have V3 := Lib.hid hv
      have K3 := Lib.hid (KC.out.upd (updFalse_of BY.out) (fun h => h))
      have cy : y1.cell? ⟨mb, 1, none⟩ = some (.slice a2 l c2s) := K3.out.cell 1
      have fy : y1.frozen? ⟨mb, 1, none⟩ = false := K3.out.frozen 1
      clear hv hin hm'
      refine HK.out _ _ (fun _ => SS.out _ BY.out) ?_
      clear hu HK K V2' N2 y
      obtain ⟨y, rfl⟩ : ∃ y, y = y1 := ⟨_, rfl⟩
      simp only [Act.put, List.setIfInBounds_toArray, List.set_cons_zero, List.set_cons_succ]
      refine till_one 18 rfl (by kernel_rfl) (fun K hK => ?_)
      have HK := Lib.hid hK
      clear hK
      go_simp
      refine HK.out _ _ (fun h => nomatch (show true = false from h)) ?_
      clear HK K
      simp only [Act.put, List.setIfInBounds_toArray, List.set_cons_zero, List.set_cons_succ]
      refine till_one 19 rfl (by kernel_rfl) (fun K hK => ?_)
      have HK := Lib.hid hK
      clear hK
      go_simp
      refine HK.out _ _ (fun h => nomatch (show true = false from h)) ?_
      clear HK K
      simp only [Act.put, List.setIfInBounds_toArray, List.set_cons_zero, List.set_cons_succ]
      refine till_one 20 rfl (by kernel_rfl) (fun K hK => ?_)
      have HK := Lib.hid hK
      clear hK
      go_simp
      refine HK.out _ _ (fun h => nomatch (show true = false from h)) ?_
      clear HK K
      simp only [Act.put, List.setIfInBounds_toArray, List.set_cons_zero, List.set_cons_succ]
      refine till_done (by kernel_rfl) ?_ _
      (try go_wp2_with fail)
      go_ret
      obtain ⟨d1, d2⟩ := MD.out.done (L := M) (L1 := F.take i) (L2 := false :: F.drop i) (M := M.take i ++ ⟨a, n, g, false⟩ :: M.drop i) (by rw [← IA.out]; exact GI.out) TM.out ML.out SB.out EB.out EF.out (by have := V3.out; rw [List.append_assoc] at this; exact this) N3.out BY.out
      exact ⟨by rw [E.out]; rfl, by rw [E.out, IA.out]; exact d1, d2⟩
  · skip
    have HK := Lib.hid hK
    clear hK
    go_simp
    refine HK.out _ _ (fun _ => SS.out _ (BY.out.alloc BY.out.size _)) ?_
    clear HK K
    simp only [Act.put, List.setIfInBounds_toArray, List.set_cons_zero, List.set_cons_succ]
    obtain ⟨p2, hp⟩ : ∃ p, y.heap.size = p := ⟨_, rfl⟩
    have PN2 : Hid (wb.heap.size ≤ p2) := Lib.hid (by rw [← hp]; exact BY.out.size)
    obtain ⟨y1, hy, VB⟩ : ∃ y1, y.alloc (.cells #[.bool false] 4) = y1 ∧ Hid (Seq Elem.bools y1 (.slice (some ⟨p2, 0, none⟩) 1 1) [false]) := ⟨_, rfl, Lib.hid (by rw [← hp]; exact Seq.new y _ [false] 1)⟩
    have P2L : Hid (p2 < y1.heap.size) := Lib.hid (by rw [← hy, World.size_alloc]; omega)
    replace BY : Hid (Below wb.heap.size wb y1) := Lib.hid (by rw [← hy]; exact BY.out.alloc BY.out.size _)
    rw [hy, hp]
    clear hy hp
    clear y
    obtain ⟨y, rfl⟩ : ∃ y, y = y1 := ⟨_, rfl⟩
    refine till_one 1 rfl (by kernel_rfl) (fun K hK => ?_)
    have HK := Lib.hid hK
    clear hK
    go_simp
    refine HK.out _ _ (fun _ => SS.out _ (BY.out.alloc BY.out.size _)) ?_
    clear HK K
    simp only [Act.put, List.setIfInBounds_toArray, List.set_cons_zero, List.set_cons_succ]
    obtain ⟨p, hp⟩ : ∃ p, y.heap.size = p := ⟨_, rfl⟩
    have PN : Hid (wb.heap.size ≤ p) := Lib.hid (by rw [← hp]; exact BY.out.size)
    obtain ⟨y1, hy, V0⟩ : ∃ y1, y.alloc (.cells #[] 4) = y1 ∧ Hid (Vec Elem.bools y1 (.slice (some ⟨p, 0, none⟩) 0 0) []) := ⟨_, rfl, Lib.hid (newAt15 y _ _ hp.symm)⟩
    have PP : Hid (p ≠ p2) := Lib.hid (by have := P2L.out; omega)
    replace VB := Lib.hid (VB.out.alloc (.cells #[] 4))
    rw [hy] at VB
    have P1L : Hid (p < y1.heap.size) := Lib.hid (by rw [← hy, World.size_alloc]; omega)
    replace P2L := Lib.hid (Nat.lt_of_lt_of_le P2L.out (by rw [← hy, World.size_alloc]; exact Nat.le_succ _ : y.heap.size ≤ y1.heap.size))
    replace BY : Hid (Below wb.heap.size wb y1) := Lib.hid (by rw [← hy]; exact BY.out.alloc BY.out.size _)
    rw [hy, hp]
    clear hy hp
    clear y
    obtain ⟨y, rfl⟩ : ∃ y, y = y1 := ⟨_, rfl⟩
    refine till_one 8 rfl (by kernel_rfl) (fun K hK => ?_)
    have HK := Lib.hid hK
    clear hK
    refine step_append_vec (E := Elem.bools) rfl (.tmp 60) (.tmp 66) 30 rfl 4 i0 (.bool false) 1 Try.underlying30 hi0 hz0 hz1 hz2 rfl (.slice (some ⟨p, 0, none⟩) 0 0) sv1 [] (F.take i) (by go_simp) (by go_simp) V0.out (SQ.out _ BY.out).1 (by simp only [maxLen, List.length_nil]; omega) (by simp only [List.length_nil]; omega) ?_
    intro u1 y1 hv hu hin
    replace BY : Hid (Below wb.heap.size wb y1) := Lib.hid (below_in15 BY.out BY.out.size (fun k hk => by rw [← in_at15 hk]; exact PN.out) hu)
    have N1 : Hid (∀ k, In u1 k → wb.heap.size ≤ k) := Lib.hid fun k hk => by rcases hin k hk with h | h; (rw [← in_at15 h]; exact PN.out); (have := P1L.out; have := PN.out; omega)
    replace VB := Lib.hid (VB.out.upd hu fun k hk hh => PP.out (by rw [in_at15 hh, in_at15 hk]))
    have V1 := Lib.hid hv
    clear hv hin
    refine HK.out _ _ (fun _ => SS.out _ BY.out) ?_
    clear hu HK K V0
    (try clear P1L)
    (try clear P2L)
    clear y
    obtain ⟨y, rfl⟩ : ∃ y, y = y1 := ⟨_, rfl⟩
    simp only [Act.put, List.setIfInBounds_toArray, List.set_cons_zero, List.set_cons_succ]
    refine till_one 10 rfl (by kernel_rfl) (fun K hK => ?_)
    have HK := Lib.hid hK
    clear hK
    refine step_append_vec (E := Elem.bools) rfl (.tmp 67) (.tmp 68) 30 rfl 4 i0 (.bool false) 1 Try.underlying30 hi0 hz0 hz1 hz2 rfl u1 (.slice (some ⟨p2, 0, none⟩) 1 1) ([] ++ F.take i) [false] (by go_simp) (by go_simp) V1.out VB.out (by simp only [maxLen, List.nil_append, List.length_cons, List.length_nil]; omega) (by simp only [List.nil_append, List.length_cons, List.length_nil]; omega) ?_
    intro u2 y1 hv hu hin
    have N2 : Hid (∀ k, In u2 k → wb.heap.size ≤ k) := Lib.hid fun k hk => by rcases hin k hk with h | h; exact N1.out k h; exact Nat.le_trans BY.out.size h
    replace BY : Hid (Below wb.heap.size wb y1) := Lib.hid (below_in15 BY.out BY.out.size N1.out hu)
    have V2' := Lib.hid hv
    clear hv hin
    refine HK.out _ _ (fun _ => SS.out _ BY.out) ?_
    clear hu HK K V1 VB N1
    (try clear P1L)
    (try clear P2L)
    clear y
    obtain ⟨y, rfl⟩ : ∃ y, y = y1 := ⟨_, rfl⟩
    simp only [Act.put, List.setIfInBounds_toArray, List.set_cons_zero, List.set_cons_succ]
    refine till_one 17 rfl (by kernel_rfl) (fun K hK => ?_)
    have HK := Lib.hid hK
    clear hK
    refine step_append_vec (E := Elem.bools) rfl (.tmp 69) (.tmp 75) 30 rfl 4 i0 (.bool false) 1 Try.underlying30 hi0 hz0 hz1 hz2 rfl u2 sv2 ([] ++ F.take i ++ [false]) (F.drop i) (by go_simp) (by go_simp) V2'.out (SQ.out _ BY.out).2 (by simp only [maxLen, List.nil_append, List.length_append, List.length_cons, List.length_nil]; omega) (by simp only [List.nil_append, List.length_append, List.length_cons, List.length_nil]; omega) ?_
    intro u3 y1 hv hu hin
    obtain ⟨a', c', ev, _⟩ := hv.slice'
    obtain ⟨m', hm'⟩ : ∃ m', ([] ++ F.take i ++ [false] ++ F.drop i).length = m' := ⟨_, rfl⟩
    rw [hm'] at ev
    subst ev
    have N3 : Hid (∀ k, In (.slice a' m' c') k → wb.heap.size ≤ k) := Lib.hid fun k hk => by rcases hin k hk with h | h; exact N2.out k h; exact Nat.le_trans BY.out.size h
    replace BY : Hid (Below wb.heap.size wb y1) := Lib.hid (below_in15 BY.out BY.out.size N2.out hu)
    have V3 := Lib.hid hv
    have K3 := Lib.hid (KC.out.upd (updFalse_of BY.out) (fun h => h))
    have cy : y1.cell? ⟨mb, 1, none⟩ = some (.slice a2 l c2s) := K3.out.cell 1
    have fy : y1.frozen? ⟨mb, 1, none⟩ = false := K3.out.frozen 1
    clear hv hin hm'
    refine HK.out _ _ (fun _ => SS.out _ BY.out) ?_
    clear hu HK K V2' N2 y
    obtain ⟨y, rfl⟩ : ∃ y, y = y1 := ⟨_, rfl⟩
    simp only [Act.put, List.setIfInBounds_toArray, List.set_cons_zero, List.set_cons_succ]
    refine till_one 18 rfl (by kernel_rfl) (fun K hK => ?_)
    have HK := Lib.hid hK
    clear hK
    go_simp
    refine HK.out _ _ (fun h => nomatch (show true = false from h)) ?_
    clear HK K
    simp only [Act.put, List.setIfInBounds_toArray, List.set_cons_zero, List.set_cons_succ]
    refine till_one 19 rfl (by kernel_rfl) (fun K hK => ?_)
    have HK := Lib.hid hK
    clear hK
    go_simp
    refine HK.out _ _ (fun h => nomatch (show true = false from h)) ?_
    clear HK K
    simp only [Act.put, List.setIfInBounds_toArray, List.set_cons_zero, List.set_cons_succ]
    refine till_one 20 rfl (by kernel_rfl) (fun K hK => ?_)
    have HK := Lib.hid hK
    clear hK
    go_simp
    refine HK.out _ _ (fun h => nomatch (show true = false from h)) ?_
    clear HK K
    simp only [Act.put, List.setIfInBounds_toArray, List.set_cons_zero, List.set_cons_succ]
    refine till_done (by kernel_rfl) ?_ _
    (try go_wp2_with fail)
    go_ret
    obtain ⟨d1, d2⟩ := MD.out.done (L := M) (L1 := F.take i) (L2 := false :: F.drop i) (M := M.take i ++ ⟨a, n, g, false⟩ :: M.drop i) (by rw [← IA.out]; exact GI.out) TM.out ML.out SB.out EB.out EF.out (by have := V3.out; rw [List.append_assoc] at this; exact this) N3.out BY.out
    exact ⟨by rw [E.out]; rfl, by rw [E.out, IA.out]; exact d1, d2⟩
end Go.Proofs.Ytclmdjkihijciaa
