/- The law QueueRows, walked. -/
import Derived.Test.YtolccandekgmoaaAlive11
import Derived.Test.YtolccandekgmoaaGreat11
namespace Go.Proofs.Ytolccandekgmoaa.queueRows
open Go.RowKit QueueMath
set_option linter.unusedVariables false

def FedR (w : World) (C : QuC w) (b : Nat) (F : Nat → Nat → Value) (n : Nat) (i : Value) (wr : World) : Prop :=
  ∃ (j : Nat) (O : Nat → Prop) (S : QR), j ≤ n ∧ i = .int .i64 (j : Int) ∧ OQ C b O S wr ∧ S.all.length ≤ tot F j
set_option maxRecDepth 100000 in
set_option maxHeartbeats 4000000 in
theorem walk_of (w : World) (C : QuC w) {a : Option Addr} {n cap : Nat} (len : Nat) (F : Nat → Nat → Value) (hr : Recs w (.slice a n cap) [.num .i64, .num .i64, .nums .i64] len F) (hf : Fits F len) (x : Int) (h1 : (Lit.int .i64 x).wf = true) :
    Calls Try.prog 6 #[.slice a n cap, .int .i64 x] w fun e w' => e = .returned (.bool true) ∧ Below w.heap.size w w' := by
  obtain ⟨rfl, hn1, hn2⟩ := hr.len
  have HX64 := Lib.hid (I64.of h1)
  have HR := Lib.hid hr; have HF := Lib.hid hf
  clear h1
  have AL := Lib.hid (alive_any w C)
  clear hr hf
  go_enter Try.func6, Try.ntmps6
  go_wp2_with fail
  refine AL.out.mono ?_; rintro e w1 ⟨rfl, hb⟩
  have B1 := Lib.hid hb
  have GR := great_any w HR.out HF.out w1 hb
  obtain ⟨g, hg⟩ : ∃ g, decide (100 < n ∨ 500 < tot F n) = g := ⟨_, rfl⟩
  rw [hg] at GR
  have HG := Lib.hid hg; have GR := Lib.hid GR
  clear hb hg
  go_wp2_with fail
  refine GR.out.mono ?_; rintro e w2 ⟨rfl, hb⟩
  have B2 := Lib.hid (below_then B1.out B1.out.size hb)
  clear hb GR
  cases g with
  | true =>
    go_wp2
    go_ret
    exact ⟨rfl, B2.out⟩
  | false =>
    have hsm : n ≤ 100 ∧ tot F n ≤ 500 := by have := of_decide_eq_false HG.out; omega
    obtain ⟨hn100, htot⟩ := hsm
    have HT := Lib.hid htot
    obtain ⟨b, hb⟩ : ∃ b, w2.heap.size = b := ⟨_, rfl⟩
    have h0 : OQ C w2.heap.size _ q0 _ := oq_new B2.out
    have I0 := Lib.hid (show FedR w C w2.heap.size F n (.int .i64 0) (w2.alloc (.cells #[.pointer none] 28)) from ⟨0, _, q0, Nat.zero_le _, rfl, h0, Nat.le_refl _⟩)
    rw [hb] at I0
    clear h0 htot
    go_wp2_with fail
    clear hb
    go_loopw [20] (fun i wr => FedR w C b F n i wr) (fun i _ => n - (intOf i).toNat)
    case atStart => exact I0.out
    case round =>
      clear I0
      obtain ⟨j, O, S, hj, rfl, hq, hl⟩ := hrel
      by_cases hjn : j < n
      · obtain ⟨b2, off2, k, y, av, cv, lst, ea, eF, hc, hk, hx, hnum⟩ := act11 HR.out hjn
        obtain ⟨c0, c1, c2⟩ := hc wr hq.below
        subst ea
        have hm : S.all.length + lst.length ≤ tot F (j + 1) := by show _ ≤ tot F j + lenV (F j 2); rw [eF]; exact Nat.add_le_add_right hl _
        have hm5 : tot F (j + 1) ≤ 500 := Nat.le_trans (tot_mono (by omega)) HT.out
        obtain ⟨m, hml⟩ : ∃ m, lst.length = m := ⟨_, rfl⟩
        have bA := Blk.new wr 33 #[.int .i64 k, .int .i64 y, .slice av m cv]
        obtain ⟨W1, hW1⟩ : ∃ z, wr.alloc (.cells #[.int .i64 k, .int .i64 y, .slice av m cv] 33) = z := ⟨_, rfl⟩
        obtain ⟨bc, hbc⟩ : ∃ z, wr.heap.size = z := ⟨_, rfl⟩
        rw [hml] at c2
        rw [hW1, hbc] at bA
        have m1 : W1.cell? ⟨bc, 1, none⟩ = some (.int .i64 y) := bA.cell 1
        have m2 : W1.cell? ⟨bc, 2, none⟩ = some (.slice av m cv) := bA.cell 2
        have hgr : Below wr.heap.size wr W1 := by rw [← hW1]; exact (Below.refl _ wr).alloc (Nat.le_refl _) _
        have h1 := hq.grew hgr
        have K1 := oq_push h1 ((Arr.ofNums hnum).grew h1.below) (h1.old hnum.old) (by show _ ≤ 1000000; omega)
        rw [hml] at K1
        have K1 := Lib.hid K1
        have BA := Lib.hid (And.intro bA (fun c hc => by have := hq.lt hc; omega : ∀ c, O c → c ≠ bc))
        have HM := Lib.hid (And.intro hm hm5)
        have t2 : decide ((j : Int) < (n : Int)) = true := decide_eq_true (by omega)
        have t2' : decide (j < n) = true := decide_eq_true hjn
        have q3 : (0 : Int) ≤ (j : Int) := by omega
        have q4 : (j : Int) < (n : Int) := by omega
        have GS := Lib.hid hq.good
        clear hc hq hl hm hm5 hnum bA hgr h1 eF hml
        go_wp2_with fail
        refine K1.out.mono ?_; rintro e w6 ⟨rfl, O1, hh, _, hu⟩
        have hlen := push_len S lst
        have hm1 : w6.cell? ⟨bc, 1, none⟩ = some (.int .i64 y) := (BA.out.1.upd hu (fun hO => BA.out.2 bc hO rfl)).cell 1
        have K2 := Lib.hid (oq_fill hh hx (by show _ ≤ 1000000; have := HM.out; omega))
        have HL := Lib.hid (show (fillE (pushE S lst).1 y).1.all.length ≤ tot F (j + 1) by rw [fill_len hh.good]; have := HM.out; omega)
        clear hh hu m1 m2 hlen hW1 hbc c0 c1 c2
        go_wp2_with fail
        refine K2.out.mono ?_; rintro e w7 ⟨rfl, O2, hh, _, _⟩
        have H7 := Lib.hid hh
        clear hh hm1
        go_wp2
        go_roundw
        case rel => exact ⟨j + 1, O2, _, by omega, by go_num, H7.out, HL.out⟩
        case measure => simp [intOf]; omega
      · obtain rfl : j = n := by omega
        have t2 : decide ((j : Int) < (j : Int)) = false := decide_eq_false (by omega)
        have hS5 : S.all.length ≤ 500 := Nat.le_trans hl HT.out
        have hrf : S.all.length = S.R.length + S.F.length := List.length_append
        obtain ⟨r, hr⟩ : ∃ r, S.R.length = r := ⟨_, rfl⟩
        obtain ⟨f, hf⟩ : ∃ f, S.F.length = f := ⟨_, rfl⟩
        have HS5 := Lib.hid hS5
        have r5 : r ≤ 500 := by omega
        have f5 : f ≤ 500 := by omega
        have K3 := oq_full hq (by show _ ≤ 1000000; omega)
        rw [hf] at K3
        have K3 := Lib.hid K3
        have HRL := Lib.hid hr; have HFL := Lib.hid hf
        have H0 := Lib.hid hq; have GS := Lib.hid hq.good
        clear hq hl hS5 hrf hr hf
        go_wp2_with fail
        refine K3.out.mono ?_; rintro e w3 ⟨a3, c3, rfl, hv, hc1, hc2, hin, hb⟩
        have I3 := Lib.hid (show RowR C b S (.slice a3 f c3) S.F f (.int .i64 0) w3 from ⟨0, O, Nat.zero_le _, rfl, H0.out.grew hb, hv, H0.out.new hin⟩)
        clear hv hin hb K3
        go_wp2
        go_loopw [33] (fun i wr => RowR C b S (.slice a3 f c3) S.F f i wr) (fun i _ => f - (intOf i).toNat)
        case atStart => exact I3.out
        case round =>
          clear I3
          obtain ⟨t, O2, ht, rfl, hq, hv, hap⟩ := hrel
          have H2 := Lib.hid hq; have V2 := Lib.hid hv; have AP2 := Lib.hid hap
          by_cases htf : t < f
          · obtain ⟨b3, off3, y, ea, _, hy, hy64, d0⟩ := hv.at (t := t) (by rw [HFL.out]; exact htf)
            subst ea
            have K4 := oq_fill hq hy64 (by have := HS5.out; show _ ≤ 1000000; omega)
            rw [full_not hq.good hy] at K4
            have K4 := Lib.hid K4
            have t3 : decide ((t : Int) < (f : Int)) = true := decide_eq_true (by omega)
            have t3' : decide (t < f) = true := decide_eq_true htf
            have q3 : (0 : Int) ≤ (t : Int) := by omega
            have q4 : (t : Int) < (f : Int) := by omega
            clear hq hv hap hy
            go_wp2_with fail
            refine K4.out.mono ?_; rintro e w4 ⟨rfl, O4, hh, hO, hu⟩
            have NX := Lib.hid (show RowR C b S (.slice (some ⟨b3, off3, none⟩) f c3) S.F f (.int .i64 ((t + 1 : Nat) : Int)) w4 from ⟨t + 1, O4, by omega, rfl, hh, V2.out.updA hu AP2.out, AP2.out.step V2.out hO⟩)
            rw [show ((t + 1 : Nat) : Int) = (t : Int) + 1 by omega] at NX
            clear hh hO hu d0
            go_wp2
            go_roundw
            case rel => exact NX.out
            case measure => simp [intOf]; omega
          · obtain rfl : t = f := by omega
            have t3 : decide ((t : Int) < (t : Int)) = false := decide_eq_false (by omega)
            have K5 := oq_ready hq (by have := HS5.out; show _ ≤ 1000000; omega)
            rw [HRL.out] at K5
            have K5 := Lib.hid K5
            clear hq hv hap
            go_wp2_with fail
            refine K5.out.mono ?_; rintro e w5 ⟨a5, c5, rfl, hv, hc3, hc4, hin, hb⟩
            have I5 := Lib.hid (show RowR C b S (.slice a5 r c5) S.R r (.int .i64 0) w5 from ⟨0, O2, Nat.zero_le _, rfl, H2.out.grew hb, hv, H2.out.new hin⟩)
            clear hv hin hb K5
            go_wp2
            go_loopw [43] (fun i wr => RowR C b S (.slice a5 r c5) S.R r i wr) (fun i _ => r - (intOf i).toNat)
            case atStart => exact I5.out
            case round =>
              clear I5
              obtain ⟨z, O6, hz, rfl, hq, hv, hap⟩ := hrel
              have H6 := Lib.hid hq; have V6 := Lib.hid hv; have AP6 := Lib.hid hap
              by_cases hzr : z < r
              · obtain ⟨b3, off3, y, ea, _, hy, hy64, d0⟩ := hv.at (t := z) (by rw [HRL.out]; exact hzr)
                subst ea
                have K4 := oq_wake hq hy64 (by have := HS5.out; show _ ≤ 1000000; omega)
                rw [ready_not hq.good hy] at K4
                have K4 := Lib.hid K4
                have t3 : decide ((z : Int) < (r : Int)) = true := decide_eq_true (by omega)
                have t3' : decide (z < r) = true := decide_eq_true hzr
                have q3 : (0 : Int) ≤ (z : Int) := by omega
                have q4 : (z : Int) < (r : Int) := by omega
                clear hq hv hap hy
                go_wp2_with fail
                refine K4.out.mono ?_; rintro e w4 ⟨rfl, O4, hh, hO, hu⟩
                have NX := Lib.hid (show RowR C b S (.slice (some ⟨b3, off3, none⟩) r c5) S.R r (.int .i64 ((z + 1 : Nat) : Int)) w4 from ⟨z + 1, O4, by omega, rfl, hh, V6.out.updA hu AP6.out, AP6.out.step V6.out hO⟩)
                rw [show ((z + 1 : Nat) : Int) = (z : Int) + 1 by omega] at NX
                clear hh hO hu d0
                go_wp2
                go_roundw
                case rel => exact NX.out
                case measure => simp [intOf]; omega
              · obtain rfl : z = r := by omega
                have t4 : decide ((z : Int) < (z : Int)) = false := decide_eq_false (by omega)
                have h7 := hq.alloc (.cells #[.int .i64 x] 3)
                have K7 := oq_has h7 (Arr.made wr 3 [x] #[.int .i64 x] rfl 1 wr.heap.size rfl rfl (by decide) (fun y hy => by rw [List.mem_singleton.1 hy]; exact HX64.out)) (by have := HS5.out; show _ + 1 ≤ 1000000; omega)
                obtain ⟨hb, hhb⟩ : ∃ y, hasE S [x] = y := ⟨_, rfl⟩
                rw [hhb] at K7
                have HH := Lib.hid hhb; have H7 := Lib.hid h7; have K7 := Lib.hid K7
                clear hq hv hap h7 hhb
                go_wp2_with fail
                refine K7.out.mono ?_; rintro e w8 ⟨rfl, hbw⟩
                have H8 := Lib.hid (H7.out.grew hbw)
                clear hbw K7
                have hmem : hasE S [x] = decide (x ∈ S.all) := by simp [hasE]
                cases hb with
                | false =>
                  have hno : x ∉ S.all := of_decide_eq_false (hmem.symm.trans HH.out)
                  obtain ⟨n1, n2⟩ := neither hno
                  have K9 := oq_fill H8.out HX64.out (by have := HS5.out; show _ ≤ 1000000; omega)
                  rw [n1] at K9
                  have K9 := Lib.hid K9; have N2 := Lib.hid n2
                  clear hno n1 n2 hmem
                  go_wp2_with fail
                  refine K9.out.mono ?_; rintro e w9 ⟨rfl, O9, hh, _, _⟩
                  have KA := oq_wake hh HX64.out (by have := HS5.out; show _ ≤ 1000000; omega)
                  rw [N2.out] at KA
                  have KA := Lib.hid KA
                  clear hh K9
                  go_wp2_with fail
                  refine KA.out.mono ?_; rintro e w10 ⟨rfl, O10, hh, _, _⟩
                  have HB := Lib.hid hh.below
                  clear hh
                  go_wp2
                  go_ret
                  exact ⟨rfl, HB.out⟩
                | true =>
                  have hyes : x ∈ S.all := of_decide_eq_true (hmem.symm.trans HH.out)
                  obtain ⟨S1, S2, S3, e1, f1, hE, f2, f3⟩ := rows_in H8.out.good hyes
                  have K9 := oq_fill H8.out HX64.out (by have := HS5.out; show _ ≤ 1000000; omega)
                  have l1 := fill_len H8.out.good x
                  rw [f1] at K9 l1
                  have K9 := Lib.hid K9; have F2 := Lib.hid f2; have F3 := Lib.hid f3; have L1' := Lib.hid l1
                  clear hyes f1 f2 f3 hmem l1
                  go_wp2_with fail
                  refine K9.out.mono ?_; rintro e w9 ⟨rfl, O9, hh, _, _⟩
                  have KA := oq_wake hh HX64.out (by have := HS5.out; have := L1'.out; show _ ≤ 1000000; omega)
                  have l2 := wake_len hh.good x
                  rw [F2.out] at KA l2
                  have KA := Lib.hid KA; have L2' := Lib.hid l2
                  clear hh K9 l2
                  go_wp2_with fail
                  refine KA.out.mono ?_; rintro e w10 ⟨rfl, O10, hh, _, _⟩
                  have KB := oq_fill hh HX64.out (by have := HS5.out; have := L1'.out; have := L2'.out; show _ ≤ 1000000; omega)
                  rw [F3.out] at KB
                  have KB := Lib.hid KB
                  clear hh KA
                  rcases hE with rfl | rfl
                  · go_wp2_with fail
                    refine KB.out.mono ?_; rintro e w11 ⟨rfl, O11, hh, _, _⟩
                    have HB := Lib.hid hh.below
                    clear hh
                    go_wp2
                    go_ret
                    exact ⟨rfl, HB.out⟩
                  · go_wp2_with fail
                    refine KB.out.mono ?_; rintro e w11 ⟨rfl, O11, hh, _, _⟩
                    have HB := Lib.hid hh.below
                    clear hh
                    go_wp2
                    go_ret
                    exact ⟨rfl, HB.out⟩
end Go.Proofs.Ytolccandekgmoaa.queueRows
