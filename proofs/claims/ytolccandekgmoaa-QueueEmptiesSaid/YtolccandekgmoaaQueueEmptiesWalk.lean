/- The law QueueEmpties, walked. -/
import Derived.Test.YtolccandekgmoaaAlive11
import Derived.Test.YtolccandekgmoaaGreat11
namespace Go.Proofs.Ytolccandekgmoaa.queueEmpties
open Go.RowKit QueueMath
set_option linter.unusedVariables false

def FedR (w : World) (C : QuC w) (b : Nat) (F : Nat → Nat → Value) (n : Nat) (i : Value) (wr : World) : Prop :=
  ∃ (j : Nat) (O : Nat → Prop) (S : QR), j ≤ n ∧ i = .int .i64 (j : Int) ∧ OQ C b O S wr ∧ S.all.length ≤ tot F j
set_option maxRecDepth 100000 in
set_option maxHeartbeats 4000000 in
theorem walk_of (w : World) (C : QuC w) {a : Option Addr} {n cap : Nat} (len : Nat) (F : Nat → Nat → Value) (hr : Recs w (.slice a n cap) [.num .i64, .num .i64, .nums .i64] len F) (hf : Fits F len) :
    Calls Try.prog 8 #[.slice a n cap] w fun e w' => e = .returned (.bool true) ∧ Below w.heap.size w w' := by
  obtain ⟨rfl, hn1, hn2⟩ := hr.len
  have HR := Lib.hid hr; have HF := Lib.hid hf
  have AL := Lib.hid (alive_any w C)
  clear hr hf
  go_enter Try.func8, Try.ntmps8
  go_wp2_with fail
  refine AL.out.mono ?_; rintro e w1 ⟨rfl, hb⟩
  have B1 := Lib.hid hb
  have GR := great_any w HR.out HF.out w1 hb
  obtain ⟨g, hg⟩ : ∃ g, decide (100 < n ∨ 500 < tot F n) = g := ⟨_, rfl⟩
  rw [hg] at GR
  have HG := Lib.hid hg; have GR := Lib.hid GR
  clear hb hg
  go_wp2_with fail
  refine GR.out.mono ?_; rintro e w2 ⟨rfl, hb⟩
  have B2 := Lib.hid (below_then B1.out B1.out.size hb)
  clear hb GR
  cases g with
  | true =>
    go_wp2
    go_ret
    exact ⟨rfl, B2.out⟩
  | false =>
    have hsm : n ≤ 100 ∧ tot F n ≤ 500 := by have := of_decide_eq_false HG.out; omega
    obtain ⟨hn100, htot⟩ := hsm
    have HT := Lib.hid htot
    obtain ⟨b, hb⟩ : ∃ b, w2.heap.size = b := ⟨_, rfl⟩
    have h0 : OQ C w2.heap.size _ q0 _ := oq_new B2.out
    have I0 := Lib.hid (show FedR w C w2.heap.size F n (.int .i64 0) (w2.alloc (.cells #[.pointer none] 28)) from ⟨0, _, q0, Nat.zero_le _, rfl, h0, Nat.le_refl _⟩)
    rw [hb] at I0
    clear h0 htot
    go_wp2_with fail
    clear hb
    go_loopw [13] (fun i wr => FedR w C b F n i wr) (fun i _ => n - (intOf i).toNat)
    case atStart => exact I0.out
    case round =>
      clear I0
      obtain ⟨j, O, S, hj, rfl, hq, hl⟩ := hrel
      by_cases hjn : j < n
      · obtain ⟨b2, off2, k, x, av, cv, lst, ea, eF, hc, hk, hx, hnum⟩ := act11 HR.out hjn
        obtain ⟨c0, c1, c2⟩ := hc wr hq.below
        subst ea
        have hm : S.all.length + lst.length ≤ tot F (j + 1) := by show _ ≤ tot F j + lenV (F j 2); rw [eF]; exact Nat.add_le_add_right hl _
        have hm5 : tot F (j + 1) ≤ 500 := Nat.le_trans (tot_mono (by omega)) HT.out
        obtain ⟨m, hml⟩ : ∃ m, lst.length = m := ⟨_, rfl⟩
        have bA := Blk.new wr 33 #[.int .i64 k, .int .i64 x, .slice av m cv]
        obtain ⟨W1, hW1⟩ : ∃ y, wr.alloc (.cells #[.int .i64 k, .int .i64 x, .slice av m cv] 33) = y := ⟨_, rfl⟩
        obtain ⟨bc, hbc⟩ : ∃ y, wr.heap.size = y := ⟨_, rfl⟩
        rw [hml] at c2
        rw [hW1, hbc] at bA
        have m1 : W1.cell? ⟨bc, 1, none⟩ = some (.int .i64 x) := bA.cell 1
        have m2 : W1.cell? ⟨bc, 2, none⟩ = some (.slice av m cv) := bA.cell 2
        have hgr : Below wr.heap.size wr W1 := by rw [← hW1]; exact (Below.refl _ wr).alloc (Nat.le_refl _) _
        have h1 := hq.grew hgr
        have K1 := oq_push h1 ((Arr.ofNums hnum).grew h1.below) (h1.old hnum.old) (by show _ ≤ 1000000; omega)
        rw [hml] at K1
        have K1 := Lib.hid K1
        have BA := Lib.hid (And.intro bA (fun c hc => by have := hq.lt hc; omega : ∀ c, O c → c ≠ bc))
        have HM := Lib.hid (And.intro hm hm5)
        have t2 : decide ((j : Int) < (n : Int)) = true := decide_eq_true (by omega)
        have t2' : decide (j < n) = true := decide_eq_true hjn
        have q3 : (0 : Int) ≤ (j : Int) := by omega
        have q4 : (j : Int) < (n : Int) := by omega
        have GS := Lib.hid hq.good
        clear hc hq hl hm hm5 hnum bA hgr h1 eF hml
        go_wp2_with fail
        refine K1.out.mono ?_; rintro e w6 ⟨rfl, O1, hh, _, hu⟩
        have hlen := push_len S lst
        have hm1 : w6.cell? ⟨bc, 1, none⟩ = some (.int .i64 x) := (BA.out.1.upd hu (fun hO => BA.out.2 bc hO rfl)).cell 1
        have K2 := Lib.hid (oq_fill hh hx (by show _ ≤ 1000000; have := HM.out; omega))
        have HL := Lib.hid (show (fillE (pushE S lst).1 x).1.all.length ≤ tot F (j + 1) by rw [fill_len hh.good]; have := HM.out; omega)
        clear hh hu m1 m2 hlen hW1 hbc c0 c1 c2
        go_wp2_with fail
        refine K2.out.mono ?_; rintro e w7 ⟨rfl, O2, hh, _, _⟩
        have H7 := Lib.hid hh
        clear hh hm1
        go_wp2
        go_roundw
        case rel => exact ⟨j + 1, O2, _, by omega, by go_num, H7.out, HL.out⟩
        case measure => simp [intOf]; omega
      · obtain rfl : j = n := by omega
        have t2 : decide ((j : Int) < (j : Int)) = false := decide_eq_false (by omega)
        have hS5 : S.all.length ≤ 500 := Nat.le_trans hl HT.out
        obtain ⟨N, hN⟩ : ∃ N, S.all.length = N := ⟨_, rfl⟩
        have HN := Lib.hid hN
        have H0 := Lib.hid hq
        have K3 := oq_all hq (by show _ ≤ 1000000; omega)
        rw [hN] at K3 hS5
        have K3 := Lib.hid K3
        clear hq hl hN
        go_wp2_with fail
        refine K3.out.mono ?_; rintro e w3 ⟨a3, c3, rfl, hv, hc1, hc2, hin, hb⟩
        have H3 := Lib.hid (H0.out.grew hb)
        have V3 := Lib.hid hv; have AP : Hid (Apt (.slice a3 N c3) S.all O) := Lib.hid (H0.out.new hin)
        obtain ⟨r, hr⟩ : ∃ r, S.R.length = r := ⟨_, rfl⟩
        obtain ⟨f, hf⟩ : ∃ f, S.F.length = f := ⟨_, rfl⟩
        have hrf : N = r + f := by rw [← HN.out, ← hr, ← hf]; exact List.length_append
        have K4 := oq_ready H3.out (by rw [HN.out]; show _ ≤ 1000000; omega)
        rw [hr] at K4
        have K4 := Lib.hid K4; have HRL := Lib.hid hr; have HFL := Lib.hid hf; have HRF := Lib.hid hrf
        clear hv hin hb K3 hr hf hrf
        go_wp2_with fail
        refine K4.out.mono ?_; rintro e w4 ⟨a4, c4, rfl, _, _, _, _, hb⟩
        have H4 := Lib.hid (H3.out.grew hb); have V4 := Lib.hid (V3.out.grew hb)
        have K5 := oq_full H4.out (by rw [HN.out]; show _ ≤ 1000000; omega)
        rw [HFL.out] at K5
        have K5 := Lib.hid K5
        clear hb K4
        have hrf := HRF.out
        have wN : (r : Int) + (f : Int) = (N : Int) := by omega
        have tN : ((N : Int) != (N : Int)) = false := by simp
        have q5 : r ≤ 500 := by omega
        have q6 : f ≤ 500 := by omega
        clear hrf
        go_wp2_with fail
        refine K5.out.mono ?_; rintro e w5 ⟨a5, c5, rfl, _, _, _, _, hb⟩
        have H5 := Lib.hid (H4.out.grew hb); have V5 := Lib.hid (V4.out.grew hb)
        have K6 := oq_remove H5.out V5.out AP.out (by rw [HN.out]; show _ ≤ 1000000; omega)
        rw [remove_them H5.out.good] at K6
        have K6 := Lib.hid K6
        clear hb K5
        go_wp2_with fail
        refine K6.out.mono ?_; rintro e w6 ⟨rfl, O6, hh, hO6, hu⟩
        have H6 := Lib.hid hh
        have V6 := Lib.hid (V5.out.updA hu AP.out)
        have AP6 : Hid (Apt (.slice a3 N c3) S.all O6) := Lib.hid (by
          rcases V5.out.lt with x | x
          · exact .inl x
          · rcases AP.out with y | y
            · exact .inl y
            · exact .inr fun k hk ho => by
                rcases hO6 k ho with z | z
                · exact y k hk z
                · have := x k hk; omega)
        have K7 := oq_all H6.out (by decide)
        have K7 := Lib.hid K7
        clear hh hO6 hu K6
        go_wp2_with fail
        refine K7.out.mono ?_; rintro e w7 ⟨a7, c7, rfl, _, _, _, _, hb⟩
        have H7 := Lib.hid (H6.out.grew hb); have V7 := Lib.hid (V6.out.grew hb)
        have K8 := oq_push H7.out V7.out AP6.out (by rw [HN.out]; show 0 + N ≤ 1000000; omega)
        rw [push_them H5.out.good] at K8
        have K8 := Lib.hid K8
        clear hb K7
        have t0 : ((q0.all.length : Int) != 0) = false := rfl
        go_wp2_with fail
        refine K8.out.mono ?_; rintro e w8 ⟨rfl, O8, hh, _, hu⟩
        have H8 := Lib.hid hh; have V8 := Lib.hid (V7.out.updA hu AP6.out)
        have K9 := oq_ready H8.out (by show (S.all ++ []).length ≤ 1000000; rw [List.append_nil, HN.out]; omega)
        simp only [] at K9
        rw [HN.out] at K9
        have K9 := Lib.hid K9
        clear hh hu K8
        go_wp2_with fail
        refine K9.out.mono ?_; rintro e w9 ⟨a9, c9, rfl, hv, _, _, _, hb⟩
        have H9 := Lib.hid (H8.out.grew hb); have V9 := Lib.hid (V8.out.grew hb)
        have SM := same11_any w9 hv.seq V9.out.seq (by omega) (by omega)
        rw [decide_eq_true rfl] at SM
        have SM := Lib.hid SM
        clear hv hb K9
        go_wp2_with fail
        refine SM.out.mono ?_; rintro e w10 ⟨rfl, hb⟩
        have H10 := Lib.hid (H9.out.grew hb)
        have KA := Lib.hid (oq_full H10.out (by show (S.all ++ []).length ≤ 1000000; rw [List.append_nil, HN.out]; omega))
        clear hb
        go_wp2_with fail
        refine KA.out.mono ?_; rintro e w11 ⟨a11, c11, rfl, _, _, _, _, hb⟩
        have H11 := Lib.hid (H10.out.grew hb)
        clear hb
        go_wp2
        go_ret
        exact ⟨rfl, H11.out.below⟩
end Go.Proofs.Ytolccandekgmoaa.queueEmpties
