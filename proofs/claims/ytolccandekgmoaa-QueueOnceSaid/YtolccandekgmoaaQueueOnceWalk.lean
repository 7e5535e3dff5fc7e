/- The law QueueOnce, walked. -/
import Derived.Test.YtolccandekgmoaaAlive11
import Derived.Test.YtolccandekgmoaaGreat11
import Derived.Test.YtolccandekgmoaaMet11
import Derived.Deep.CutBlock
import Derived.Deep.DeepCutAuto
namespace Go.Proofs.Ytolccandekgmoaa.queueOnce
open Go.RowKit Go.Maps QueueMath
set_option linter.unusedVariables false

def FedR (w : World) (C : QuC w) (b : Nat) (F : Nat → Nat → Value) (n : Nat) (i : Value) (wr : World) : Prop :=
  ∃ (j : Nat) (O : Nat → Prop) (S : QR), j ≤ n ∧ i = .int .i64 (j : Int) ∧ OQ C b O S wr ∧ S.all.length ≤ tot F j
set_option maxRecDepth 100000 in
set_option maxHeartbeats 4000000 in
theorem walk_of (w : World) (C : QuC w) {a : Option Addr} {n cap : Nat} (len : Nat) (F : Nat → Nat → Value) (hr : Recs w (.slice a n cap) [.num .i64, .num .i64, .nums .i64] len F) (hf : Fits F len) (x : Int) (h1 : (Lit.int .i64 x).wf = true) :
    Calls Try.prog 4 #[.slice a n cap, .int .i64 x] w fun e w' => e = .returned (.bool true) ∧ Below w.heap.size w w' := by
  obtain ⟨rfl, hn1, hn2⟩ := hr.len
  have HX64 := Lib.hid (I64.of h1)
  have HR := Lib.hid hr; have HF := Lib.hid hf
  clear h1
  have AL := Lib.hid (alive_any w C)
  clear hr hf
  go_enter Try.func4, Try.ntmps4
  go_wp2_with fail
  refine AL.out.mono ?_; rintro e w1 ⟨rfl, hb⟩
  have B1 := Lib.hid hb
  have GR := great_any w HR.out HF.out w1 hb
  obtain ⟨g, hg⟩ : ∃ g, decide (100 < n ∨ 500 < tot F n) = g := ⟨_, rfl⟩
  rw [hg] at GR
  have HG := Lib.hid hg; have GR := Lib.hid GR
  clear hb hg
  go_wp2_with fail
  refine GR.out.mono ?_; rintro e w2 ⟨rfl, hb⟩
  have B2 := Lib.hid (below_then B1.out B1.out.size hb)
  clear hb GR
  cases g with
  | true =>
    go_wp2
    go_ret
    exact ⟨rfl, B2.out⟩
  | false =>
    have hsm : n ≤ 100 ∧ tot F n ≤ 500 := by have := of_decide_eq_false HG.out; omega
    obtain ⟨hn100, htot⟩ := hsm
    have HT := Lib.hid htot
    obtain ⟨b, hb⟩ : ∃ b, w2.heap.size = b := ⟨_, rfl⟩
    have h0 : OQ C w2.heap.size _ q0 _ := oq_new B2.out
    have I0 := Lib.hid (show FedR w C w2.heap.size F n (.int .i64 0) (w2.alloc (.cells #[.pointer none] 28)) from ⟨0, _, q0, Nat.zero_le _, rfl, h0, Nat.le_refl _⟩)
    rw [hb] at I0
    clear h0 htot
    go_wp2_with fail
    clear hb
    go_loopw [18] (fun i wr => FedR w C b F n i wr) (fun i _ => n - (intOf i).toNat)
    case atStart => exact I0.out
    case round =>
      clear I0
      obtain ⟨j, O, S, hj, rfl, hq, hl⟩ := hrel
      by_cases hjn : j < n
      · obtain ⟨b2, off2, k, y, av, cv, lst, ea, eF, hc, hk, hx, hnum⟩ := act11 HR.out hjn
        obtain ⟨c0, c1, c2⟩ := hc wr hq.below
        subst ea
        have hm : S.all.length + lst.length ≤ tot F (j + 1) := by show _ ≤ tot F j + lenV (F j 2); rw [eF]; exact Nat.add_le_add_right hl _
        have hm5 : tot F (j + 1) ≤ 500 := Nat.le_trans (tot_mono (by omega)) HT.out
        obtain ⟨m, hml⟩ : ∃ m, lst.length = m := ⟨_, rfl⟩
        have bA := Blk.new wr 33 #[.int .i64 k, .int .i64 y, .slice av m cv]
        obtain ⟨W1, hW1⟩ : ∃ z, wr.alloc (.cells #[.int .i64 k, .int .i64 y, .slice av m cv] 33) = z := ⟨_, rfl⟩
        obtain ⟨bc, hbc⟩ : ∃ z, wr.heap.size = z := ⟨_, rfl⟩
        rw [hml] at c2
        rw [hW1, hbc] at bA
        have m0 : W1.cell? ⟨bc, 0, none⟩ = some (.int .i64 k) := bA.cell 0
        have m1 : W1.cell? ⟨bc, 1, none⟩ = some (.int .i64 y) := bA.cell 1
        have m2 : W1.cell? ⟨bc, 2, none⟩ = some (.slice av m cv) := bA.cell 2
        have hgr : Below wr.heap.size wr W1 := by rw [← hW1]; exact (Below.refl _ wr).alloc (Nat.le_refl _) _
        have h1 := hq.grew hgr
        have VA := Lib.hid ((Arr.ofNums hnum).grew h1.below); have AO := Lib.hid (h1.old hnum.old)
        have ML := Lib.hid hml
        have H1 := Lib.hid h1
        have BA := Lib.hid (And.intro bA (fun c hc => by have := hq.lt hc; omega : ∀ c, O c → c ≠ bc))
        have HM := Lib.hid (And.intro hm hm5)
        have t2 : decide ((j : Int) < (n : Int)) = true := decide_eq_true (by omega)
        have t2' : decide (j < n) = true := decide_eq_true hjn
        have q3 : (0 : Int) ≤ (j : Int) := by omega
        have q4 : (j : Int) < (n : Int) := by omega
        have HMANY := Lib.hid (show S.all.length + lst.length ≤ 1000000 by omega)
        have HL := Lib.hid (show S.all.length ≤ tot F (j + 1) by omega)
        clear hc hq hl hm hm5 hnum bA hgr h1 eF hml
        go_upto_block 2 with fail
        clear hW1 hbc c0 c1 c2
        go_cut [] (fun wx => ∃ O S, OQ C b O S wx ∧ S.all.length ≤ tot F (j + 1))
        case first =>
          have hkind : k = 1 ∨ k = 2 ∨ k = 3 ∨ ¬ (k = 1 ∨ k = 2 ∨ k = 3) := by omega
          rcases hkind with hk1 | hk1 | hk1 | hk1
          · as_aux_lemma =>
            subst hk1
            have K := oq_remove H1.out VA.out AO.out HMANY.out
            rw [ML.out] at K
            have K := Lib.hid K
            go_wp2_with fail
            refine K.out.mono ?_; rintro e w6 ⟨rfl, O1, hh, _, _⟩
            have Q := Lib.hid (show ∃ O S, OQ C b O S w6 ∧ S.all.length ≤ tot F (j + 1) from ⟨O1, _, hh, by have := remove_len S lst; have := HL.out; omega⟩)
            clear hh m0 m1 m2 K
            go_wp2_with fail
            go_meet
            exact Q.out
          · as_aux_lemma =>
            subst hk1
            have K := oq_fill H1.out hx (by have := HMANY.out; show _ ≤ 1000000; omega)
            skip
            have K := Lib.hid K
            go_wp2_with fail
            refine K.out.mono ?_; rintro e w6 ⟨rfl, O1, hh, _, _⟩
            have Q := Lib.hid (show ∃ O S, OQ C b O S w6 ∧ S.all.length ≤ tot F (j + 1) from ⟨O1, _, hh, by rw [fill_len H1.out.good]; exact HL.out⟩)
            clear hh m0 m1 m2 K
            go_wp2_with fail
            go_meet
            exact Q.out
          · as_aux_lemma =>
            subst hk1
            have K := oq_wake H1.out hx (by have := HMANY.out; show _ ≤ 1000000; omega)
            skip
            have K := Lib.hid K
            go_wp2_with fail
            refine K.out.mono ?_; rintro e w6 ⟨rfl, O1, hh, _, _⟩
            have Q := Lib.hid (show ∃ O S, OQ C b O S w6 ∧ S.all.length ≤ tot F (j + 1) from ⟨O1, _, hh, by rw [wake_len H1.out.good]; exact HL.out⟩)
            clear hh m0 m1 m2 K
            go_wp2_with fail
            go_meet
            exact Q.out
          · as_aux_lemma =>
            have k1 : (k == (1 : Int)) = false := by rw [beq_eq_false_iff_ne]; omega
            have k2 : (k == (2 : Int)) = false := by rw [beq_eq_false_iff_ne]; omega
            have k3 : (k == (3 : Int)) = false := by rw [beq_eq_false_iff_ne]; omega
            clear hk1
            have K := oq_push H1.out VA.out AO.out HMANY.out
            rw [ML.out] at K
            have K := Lib.hid K
            go_wp2_with fail
            refine K.out.mono ?_; rintro e w6 ⟨rfl, O1, hh, _, _⟩
            have Q := Lib.hid (show ∃ O S, OQ C b O S w6 ∧ S.all.length ≤ tot F (j + 1) from ⟨O1, _, hh, by have := push_len S lst; have := HM.out; omega⟩)
            clear hh m0 m1 m2 K
            go_wp2_with fail
            go_meet
            exact Q.out
        case rest =>
          obtain ⟨O1, S1, hq, hl1⟩ := hcut
          obtain ⟨N, hN⟩ : ∃ N, S1.all.length = N := ⟨_, rfl⟩
          have hN5 : N ≤ 500 := by have := HM.out; omega
          have HN := Lib.hid hN; have HL1 := Lib.hid hl1; have Q1 := Lib.hid hq
          have hmm := @run_makeMap Try.prog
          obtain ⟨b4, hb4⟩ : ∃ y, wc.heap.size = y := ⟨_, rfl⟩
          have HB4 := Lib.hid hb4
          have K5 := fun o => oq_all (hq.alloc o) (by rw [hN]; show _ ≤ 1000000; omega)
          rw [hN] at K5
          have K5 := Lib.hid K5
          clear hq hl1 hN m0 m1 m2 BA HM H1 VA AO ML HMANY HL
          go_wp2_with fail
          refine (K5.out _).mono ?_; rintro e w5 ⟨a5, c5, rfl, hv, hd1, hd2, hin, hb⟩
          have I5 := Lib.hid (show SeenR C b b4 O1 S1 (.slice a5 N c5) N (.int .i64 0) w5 from ⟨0, .map [], Nat.zero_le _, rfl, (Q1.out.alloc _).grew hb, hv, ownsMap_upd (by rw [← HB4.out]; exact World.ownsMap_made _ _ _ _) (updFalse_of hb) id, metI_nil⟩)
          have FB := Lib.hid (show ¬ O1 b4 ∧ w.heap.size ≤ b4 ∧ ¬ In (.slice a5 N c5) b4 from ⟨fun ho => by have := Q1.out.lt ho; have := HB4.out; omega, by have := Q1.out.below.size; have := HB4.out; omega, fun hk => by have := hin b4 hk; rw [World.size_alloc] at this; have := HB4.out; omega⟩)
          clear hv hin hb hmm hb4 K5
          go_wp2
          go_loopw [45] (fun i wr => SeenR C b b4 O1 S1 (.slice a5 N c5) N i wr) (fun i _ => N - (intOf i).toNat)
          case atStart => exact I5.out
          case round =>
            clear I5
            obtain ⟨t, D, ht, rfl, hq, hv, hmap, hmet⟩ := hrel
            by_cases htn : t < N
            · obtain ⟨b3, off3, y, ea, hy, hym, hy64, d0⟩ := hv.at (t := t) (by rw [HN.out]; exact htn)
              subst ea
              have HAT := Lib.hid (show D.atKey (.int .i64 y) (.lit (.bool false)) = .lit (.bool false) by rw [hmet y, not_before hq.good.nd hy])
              have HKEY := Lib.hid (keyOf_int_mk (P := Try.prog) Try.underlying3 hy64.wf)
              obtain ⟨q1, q2, _⟩ := oq_one hq hy64
              have K6 := oq_has q1 q2 (by rw [HN.out]; show _ + 1 ≤ 1000000; omega)
              rw [has_yes hym] at K6
              have K6 := Lib.hid K6; have HQ := Lib.hid hq; have HV := Lib.hid hv; have MAP := Lib.hid hmap; have MET := Lib.hid hmet; have HY := Lib.hid hy
              have t3 : decide ((t : Int) < (N : Int)) = true := decide_eq_true (by omega)
              have t3' : decide (t < N) = true := decide_eq_true htn
              have p0 : (0 : Int) ≤ (t : Int) := by omega
              have p1 : (t : Int) < (N : Int) := by omega
              clear hq hv hmap hmet hy hym q1 q2
              go_wp2_with (at_lookup; refine wpList_lookup_own_bool _ rfl (.tmp 49) (.tmp 50) 43 rfl 3 4 keyI Try.underlying43 Try.underlying4 (zeroB11 _) b4 _ D rfl MAP.out _ (.int .i64 y) rfl HKEY.out false HAT.out ?_)
              refine K6.out.mono ?_; rintro e w6 ⟨rfl, hb⟩
              have hb6 : Below wr.heap.size wr w6 := below_then ((Below.refl _ wr).alloc (Nat.le_refl _) _) (by simp) hb
              have H6 := Lib.hid (HQ.out.grew hb6); have V6 := Lib.hid (HV.out.grew hb6)
              have M6 := Lib.hid (ownsMap_upd MAP.out (updFalse_of hb6) id)
              clear hb hb6 d0 K6
              go_wp2_with (at_mapUpdate; refine wpList_mapUpdate_own _ rfl _ _ _ 43 rfl 3 4 keyI Try.underlying43 _ b4 t D rfl M6.out (by unfold maxLen; omega) _ _ _ rfl rfl HKEY.out _ [] (plainElem_bool Try.underlying4 true) ?_; intro w9 hown1 hgrow1; have M9 := Lib.hid hown1; have U9 := Lib.hid (upd_grownBy hgrow1); clear hown1 hgrow1)
              have NX := Lib.hid (show SeenR C b b4 O1 S1 (.slice (some ⟨b3, off3, none⟩) N c5) N (.int .i64 ((t + 1 : Nat) : Int)) w9 from ⟨t + 1, _, by omega, rfl, H6.out.upd U9.out (fun k hk => by rw [hk]; exact ⟨FB.out.1, FB.out.2.1⟩), V6.out.upd U9.out (fun k hk e => by rw [e] at hk; exact FB.out.2.2 hk), M9.out, by
                rw [List.take_add_one, HY.out]
                exact MET.out.put MAP.out.isMap y⟩)
              rw [show ((t + 1 : Nat) : Int) = (t : Int) + 1 by omega] at NX
              go_roundw
              case rel => exact NX.out
              case measure => simp [intOf]; omega
            · obtain rfl : t = N := by omega
              have t3 : decide ((t : Int) < (t : Int)) = false := decide_eq_false (by omega)
              have HQ := Lib.hid hq
              clear hq hv hmap hmet
              go_wp2
              go_roundw
              case rel => exact ⟨j + 1, O1, S1, by omega, by go_num, HQ.out, HL1.out⟩
              case measure => simp [intOf]; omega
      · obtain rfl : j = n := by omega
        have t2 : decide ((j : Int) < (j : Int)) = false := decide_eq_false (by omega)
        have hS5 : S.all.length ≤ 500 := Nat.le_trans hl HT.out
        obtain ⟨N, hN⟩ : ∃ N, S.all.length = N := ⟨_, rfl⟩
        rw [hN] at hS5
        have HN := Lib.hid hN; have H0 := Lib.hid hq
        have K3 := oq_all hq (by rw [hN]; show _ ≤ 1000000; omega)
        rw [hN] at K3
        have K3 := Lib.hid K3
        clear hq hl hN
        go_wp2_with fail
        refine K3.out.mono ?_; rintro e w3 ⟨a3, c3, rfl, _, _, _, _, hb⟩
        have H3 := Lib.hid (H0.out.grew hb)
        obtain ⟨q1, q2, q3⟩ := oq_one H3.out HX64.out
        have Q1 := Lib.hid q1
        clear hb K3
        by_cases hx : x ∈ S.all
        · have K4 := oq_has q1 q2 (by rw [HN.out]; show _ + 1 ≤ 1000000; omega)
          rw [has_yes hx] at K4
          have K4 := Lib.hid K4; have HX := Lib.hid hx
          clear q1 q2 q3 hx
          go_wp2_with fail
          refine K4.out.mono ?_; rintro e w4 ⟨rfl, hb⟩
          have H4 := Lib.hid (Q1.out.grew hb)
          obtain ⟨q1, q2, q3⟩ := oq_one H4.out HX64.out
          have K5 := oq_push q1 q2 q3 (by rw [HN.out]; show _ + 1 ≤ 1000000; omega)
          rw [push_there HX.out] at K5
          have K5 := Lib.hid K5
          clear hb K4 q1 q2 q3
          go_wp2_with fail
          refine K5.out.mono ?_; rintro e w5 ⟨rfl, O5, hh, _, _⟩
          have H5 := Lib.hid hh
          have K6 := oq_all hh (by rw [HN.out]; show _ ≤ 1000000; omega)
          rw [HN.out] at K6
          have K6 := Lib.hid K6
          have tN : ((N : Int) == (N : Int)) = true := by simp
          clear hh K5
          go_wp2_with fail
          refine K6.out.mono ?_; rintro e w6 ⟨a6, c6, rfl, _, _, _, _, hb⟩
          have H6 := Lib.hid (H5.out.grew hb)
          obtain ⟨q1, q2, q3⟩ := oq_one H6.out HX64.out
          have K7 := oq_remove q1 q2 q3 (by rw [HN.out]; show _ + 1 ≤ 1000000; omega)
          rw [remove_there HX.out] at K7
          have K7 := Lib.hid K7
          have hrl := remove1_len H6.out.good HX.out
          rw [HN.out] at hrl
          have HRL := Lib.hid hrl
          clear hb K6 q1 q2 q3 hrl
          go_wp2_with fail
          refine K7.out.mono ?_; rintro e w7 ⟨rfl, O7, hh, _, _⟩
          obtain ⟨q1, q2, q3⟩ := oq_one hh HX64.out
          have Q7 := Lib.hid q1
          have K8 := oq_has q1 q2 (by have := HRL.out; show _ + 1 ≤ 1000000; omega)
          rw [has_no gone] at K8
          have K8 := Lib.hid K8
          clear hh K7 q1 q2 q3
          go_wp2_with fail
          refine K8.out.mono ?_; rintro e w8 ⟨rfl, hb⟩
          have H8 := Lib.hid (Q7.out.grew hb)
          obtain ⟨q1, q2, q3⟩ := oq_one H8.out HX64.out
          have K9 := oq_push q1 q2 q3 (by have := HRL.out; show _ + 1 ≤ 1000000; omega)
          rw [push_new gone] at K9
          have K9 := Lib.hid K9
          clear hb K8 q1 q2 q3
          go_wp2_with fail
          refine K9.out.mono ?_; rintro e w9 ⟨rfl, O9, hh, _, _⟩
          have H9 := Lib.hid hh
          have hfl : (QR.all ⟨out S.R x ++ [x], out S.F x⟩).length = N := by have := HRL.out; simp only [QR.all, List.length_append, List.length_cons, List.length_nil] at this ⊢; omega
          have KA := oq_all hh (by rw [show (QR.all ⟨(⟨out S.R x, out S.F x⟩ : QR).R ++ [x], (⟨out S.R x, out S.F x⟩ : QR).F⟩).length = N from hfl]; show _ ≤ 1000000; omega)
          rw [show (QR.all ⟨(⟨out S.R x, out S.F x⟩ : QR).R ++ [x], (⟨out S.R x, out S.F x⟩ : QR).F⟩).length = N from hfl] at KA
          have KA := Lib.hid KA
          clear hh K9 hfl
          go_wp2_with fail
          refine KA.out.mono ?_; rintro e w10 ⟨a10, c10, rfl, _, _, _, _, hb⟩
          have H10 := Lib.hid (H9.out.grew hb)
          clear hb KA
          go_wp2
          go_ret
          exact ⟨rfl, H10.out.below⟩
        · have K4 := oq_has q1 q2 (by rw [HN.out]; show _ + 1 ≤ 1000000; omega)
          rw [has_no hx] at K4
          have K4 := Lib.hid K4; have HX := Lib.hid hx
          clear q1 q2 q3 hx
          go_wp2_with fail
          refine K4.out.mono ?_; rintro e w4 ⟨rfl, hb⟩
          have H4 := Lib.hid (Q1.out.grew hb)
          obtain ⟨q1, q2, q3⟩ := oq_one H4.out HX64.out
          have K5 := oq_remove q1 q2 q3 (by rw [HN.out]; show _ + 1 ≤ 1000000; omega)
          rw [remove_none HX.out] at K5
          have K5 := Lib.hid K5
          clear hb K4 q1 q2 q3
          go_wp2_with fail
          refine K5.out.mono ?_; rintro e w5 ⟨rfl, O5, hh, _, _⟩
          obtain ⟨q1, q2, q3⟩ := oq_one hh HX64.out
          have K6 := oq_push q1 q2 q3 (by rw [HN.out]; show _ + 1 ≤ 1000000; omega)
          rw [push_new HX.out] at K6
          have K6 := Lib.hid K6
          clear hh K5 q1 q2 q3
          go_wp2_with fail
          refine K6.out.mono ?_; rintro e w6 ⟨rfl, O6, hh, _, _⟩
          obtain ⟨M, hM⟩ : ∃ M, (QR.all ⟨S.R ++ [x], S.F⟩).length = M := ⟨_, rfl⟩
          have hMN : M = N + 1 := by rw [← hM, ← HN.out]; simp only [QR.all, List.length_append, List.length_cons, List.length_nil]; omega
          obtain ⟨q1, q2, q3⟩ := oq_one hh HX64.out
          have Q6 := Lib.hid q1
          have K7 := oq_has q1 q2 (by rw [hM]; show _ + 1 ≤ 1000000; omega)
          rw [has_yes (mem_all.2 (.inl (show x ∈ S.R ++ [x] by simp)))] at K7
          have K7 := Lib.hid K7; have HM2 := Lib.hid hM; have HMN := Lib.hid hMN
          clear hh K6 q1 q2 q3 hM hMN
          go_wp2_with fail
          refine K7.out.mono ?_; rintro e w7 ⟨rfl, hb⟩
          have H7 := Lib.hid (Q6.out.grew hb)
          have K8 := oq_all H7.out (by rw [HM2.out, HMN.out]; show _ ≤ 1000000; omega)
          rw [HM2.out] at K8
          have K8 := Lib.hid K8
          have eM : (N : Int) + 1 = (M : Int) := by have := HMN.out; omega
          have tM : ((M : Int) == (M : Int)) = true := by simp
          have M5 : M ≤ 501 := by have := HMN.out; omega
          clear hb K7
          go_wp2_with fail
          refine K8.out.mono ?_; rintro e w8 ⟨a8, c8, rfl, _, _, _, _, hb⟩
          have H8 := Lib.hid (H7.out.grew hb)
          clear hb K8
          go_wp2
          go_ret
          exact ⟨rfl, H8.out.below⟩
end Go.Proofs.Ytolccandekgmoaa.queueOnce
