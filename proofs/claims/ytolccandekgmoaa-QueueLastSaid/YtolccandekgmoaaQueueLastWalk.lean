/- The law QueueLast, walked. -/
import Derived.Test.YtolccandekgmoaaAlive11
import Derived.Test.YtolccandekgmoaaGreat11
import Derived.Test.YtolccandekgmoaaLast11
namespace Go.Proofs.Ytolccandekgmoaa.queueLast
open Go.RowKit QueueMath
set_option linter.unusedVariables false

def FedR (w : World) (C : QuC w) (b : Nat) (F : Nat → Nat → Value) (n : Nat) (i : Value) (wr : World) : Prop :=
  ∃ (j : Nat) (O : Nat → Prop) (S : QR), j ≤ n ∧ i = .int .i64 (j : Int) ∧ OQ C b O S wr ∧ S.all.length ≤ tot F j
def LastR (w : World) (C : QuC w) (b : Nat) (x : Int) (i : Value) (wr : World) : Prop :=
  ∃ (t : Nat) (O : Nat → Prop) (S : QR), t ≤ 3 ∧ i = .int .i64 (t : Int) ∧ OQ C b O S wr ∧ x ∈ S.all ∧ S.all.length ≤ 501
set_option maxRecDepth 100000 in
set_option maxHeartbeats 4000000 in
theorem walk_of (w : World) (C : QuC w) {a : Option Addr} {n cap : Nat} (len : Nat) (F : Nat → Nat → Value) (hr : Recs w (.slice a n cap) [.num .i64, .num .i64, .nums .i64] len F) (hf : Fits F len) (x : Int) (h1 : (Lit.int .i64 x).wf = true) :
    Calls Try.prog 5 #[.slice a n cap, .int .i64 x] w fun e w' => e = .returned (.bool true) ∧ Below w.heap.size w w' := by
  obtain ⟨rfl, hn1, hn2⟩ := hr.len
  have HX64 := Lib.hid (I64.of h1)
  have HR := Lib.hid hr; have HF := Lib.hid hf
  clear h1
  have AL := Lib.hid (alive_any w C)
  clear hr hf
  go_enter Try.func5, Try.ntmps5
  go_wp2_with fail
  refine AL.out.mono ?_; rintro e w1 ⟨rfl, hb⟩
  have B1 := Lib.hid hb
  have GR := great_any w HR.out HF.out w1 hb
  obtain ⟨g, hg⟩ : ∃ g, decide (100 < n ∨ 500 < tot F n) = g := ⟨_, rfl⟩
  rw [hg] at GR
  have HG := Lib.hid hg; have GR := Lib.hid GR
  clear hb hg
  go_wp2_with fail
  refine GR.out.mono ?_; rintro e w2 ⟨rfl, hb⟩
  have B2 := Lib.hid (below_then B1.out B1.out.size hb)
  clear hb GR
  cases g with
  | true =>
    go_wp2
    go_ret
    exact ⟨rfl, B2.out⟩
  | false =>
    have hsm : n ≤ 100 ∧ tot F n ≤ 500 := by have := of_decide_eq_false HG.out; omega
    obtain ⟨hn100, htot⟩ := hsm
    have HT := Lib.hid htot
    obtain ⟨b, hb⟩ : ∃ b, w2.heap.size = b := ⟨_, rfl⟩
    have h0 : OQ C w2.heap.size _ q0 _ := oq_new B2.out
    have I0 := Lib.hid (show FedR w C w2.heap.size F n (.int .i64 0) (w2.alloc (.cells #[.pointer none] 28)) from ⟨0, _, q0, Nat.zero_le _, rfl, h0, Nat.le_refl _⟩)
    rw [hb] at I0
    clear h0 htot
    go_wp2_with fail
    clear hb
    go_loopw [18] (fun i wr => FedR w C b F n i wr) (fun i _ => n - (intOf i).toNat)
    case atStart => exact I0.out
    case round =>
      clear I0
      obtain ⟨j, O, S, hj, rfl, hq, hl⟩ := hrel
      by_cases hjn : j < n
      · obtain ⟨b2, off2, k, y, av, cv, lst, ea, eF, hc, hk, hx, hnum⟩ := act11 HR.out hjn
        obtain ⟨c0, c1, c2⟩ := hc wr hq.below
        subst ea
        have hm : S.all.length + lst.length ≤ tot F (j + 1) := by show _ ≤ tot F j + lenV (F j 2); rw [eF]; exact Nat.add_le_add_right hl _
        have hm5 : tot F (j + 1) ≤ 500 := Nat.le_trans (tot_mono (by omega)) HT.out
        obtain ⟨m, hml⟩ : ∃ m, lst.length = m := ⟨_, rfl⟩
        have bA := Blk.new wr 33 #[.int .i64 k, .int .i64 y, .slice av m cv]
        obtain ⟨W1, hW1⟩ : ∃ z, wr.alloc (.cells #[.int .i64 k, .int .i64 y, .slice av m cv] 33) = z := ⟨_, rfl⟩
        obtain ⟨bc, hbc⟩ : ∃ z, wr.heap.size = z := ⟨_, rfl⟩
        rw [hml] at c2
        rw [hW1, hbc] at bA
        have m1 : W1.cell? ⟨bc, 1, none⟩ = some (.int .i64 y) := bA.cell 1
        have m2 : W1.cell? ⟨bc, 2, none⟩ = some (.slice av m cv) := bA.cell 2
        have hgr : Below wr.heap.size wr W1 := by rw [← hW1]; exact (Below.refl _ wr).alloc (Nat.le_refl _) _
        have h1 := hq.grew hgr
        have K1 := oq_push h1 ((Arr.ofNums hnum).grew h1.below) (h1.old hnum.old) (by show _ ≤ 1000000; omega)
        rw [hml] at K1
        have K1 := Lib.hid K1
        have BA := Lib.hid (And.intro bA (fun c hc => by have := hq.lt hc; omega : ∀ c, O c → c ≠ bc))
        have HM := Lib.hid (And.intro hm hm5)
        have t2 : decide ((j : Int) < (n : Int)) = true := decide_eq_true (by omega)
        have t2' : decide (j < n) = true := decide_eq_true hjn
        have q3 : (0 : Int) ≤ (j : Int) := by omega
        have q4 : (j : Int) < (n : Int) := by omega
        have GS := Lib.hid hq.good
        clear hc hq hl hm hm5 hnum bA hgr h1 eF hml
        go_wp2_with fail
        refine K1.out.mono ?_; rintro e w6 ⟨rfl, O1, hh, _, hu⟩
        have hlen := push_len S lst
        have hm1 : w6.cell? ⟨bc, 1, none⟩ = some (.int .i64 y) := (BA.out.1.upd hu (fun hO => BA.out.2 bc hO rfl)).cell 1
        have K2 := Lib.hid (oq_fill hh hx (by show _ ≤ 1000000; have := HM.out; omega))
        have HL := Lib.hid (show (fillE (pushE S lst).1 y).1.all.length ≤ tot F (j + 1) by rw [fill_len hh.good]; have := HM.out; omega)
        clear hh hu m1 m2 hlen hW1 hbc c0 c1 c2
        go_wp2_with fail
        refine K2.out.mono ?_; rintro e w7 ⟨rfl, O2, hh, _, _⟩
        have H7 := Lib.hid hh
        clear hh hm1
        go_wp2
        go_roundw
        case rel => exact ⟨j + 1, O2, _, by omega, by go_num, H7.out, HL.out⟩
        case measure => simp [intOf]; omega
      · obtain rfl : j = n := by omega
        have t2 : decide ((j : Int) < (j : Int)) = false := decide_eq_false (by omega)
        have hS5 : S.all.length ≤ 500 := Nat.le_trans hl HT.out
        have K3 := oq_push (hq.alloc (.cells #[.int .i64 x] 3)) (Arr.made wr 3 [x] #[.int .i64 x] rfl 1 wr.heap.size rfl rfl (by decide) (fun y hy => by rw [List.mem_singleton.1 hy]; exact HX64.out)) (.inr fun k hk hO => by have e := in_blk hk; have := hq.lt hO; omega) (by show _ + 1 ≤ 1000000; omega)
        have hin := there_in S x
        have hle : (pushE S [x]).1.all.length ≤ 501 := Nat.le_trans (push_len S [x]) (by show _ + 1 ≤ 501; omega)
        obtain ⟨S1, hS1⟩ : ∃ z, (pushE S [x]).1 = z := ⟨_, rfl⟩
        rw [hS1] at K3 hin hle
        have K3 := Lib.hid K3; have HI := Lib.hid hin; have HE := Lib.hid hle
        clear hq hl hS5 hin hle hS1
        go_wp2_with fail
        refine K3.out.mono ?_; rintro e w3 ⟨rfl, O3, hh, _, _⟩
        have I3 := Lib.hid (show LastR w C b x (.int .i64 0) w3 from ⟨0, O3, S1, by decide, rfl, hh, HI.out, HE.out⟩)
        clear hh K3
        go_wp2
        go_loopw [32] (fun i wr => LastR w C b x i wr) (fun i _ => 3 - (intOf i).toNat)
        case atStart => exact I3.out
        case round =>
          clear I3
          obtain ⟨t, O2, S, ht, rfl, hq, hxin, hle⟩ := hrel
          have HL := Lib.hid hle
          by_cases ht3 : t < 3
          · have t3 : decide ((t : Int) < 3) = true := decide_eq_true (by omega)
            have t3' : decide (t < 3) = true := decide_eq_true ht3
            obtain ⟨r, hr⟩ : ∃ r, S.R.length = r := ⟨_, rfl⟩
            obtain ⟨f, hf⟩ : ∃ f, S.F.length = f := ⟨_, rfl⟩
            have hrf : S.all.length = S.R.length + S.F.length := List.length_append
            have r5 : r ≤ 501 := by omega
            have f5 : f ≤ 501 := by omega
            have HRL := Lib.hid hr; have HFL := Lib.hid hf
            have K1 := oq_ready hq (by show _ ≤ 1000000; omega)
            rw [hr] at K1
            have H0 := Lib.hid hq; have K1 := Lib.hid K1
            clear hr hf hrf hq hle
            go_wp2_with fail
            refine K1.out.mono ?_; rintro e w1' ⟨a1, c1, rfl, hv, hc1, hc2, hin, hb⟩
            have H1 := Lib.hid (H0.out.grew hb); have V1a := Lib.hid hv
            have AP1 : Hid (Apt (.slice a1 r c1) S.R O2) := Lib.hid (H0.out.new hin)
            have K2 := oq_full H1.out (by have := HL.out; show _ ≤ 1000000; omega)
            rw [HFL.out] at K2
            have K2 := Lib.hid K2
            clear hv hin hb K1
            go_wp2_with fail
            refine K2.out.mono ?_; rintro e w2' ⟨a2, c2, rfl, hv, hc3, hc4, hin, hb⟩
            have H2 := Lib.hid (H1.out.grew hb); have V1 := Lib.hid (V1a.out.grew hb); have V2 := Lib.hid hv
            have AP2 : Hid (Apt (.slice a2 f c2) S.F O2) := Lib.hid (H1.out.new hin)
            clear hv hin hb K2
            by_cases hin : x ∈ S.R
            · have K3 := oq_fill H2.out HX64.out (by have := HL.out; show _ ≤ 1000000; omega)
              rw [fill_yes hin] at K3
              have hlen : (out S.R x).length + 1 = r := by rw [← HRL.out]; exact out_length (all_nodup.1 H2.out.good.nd).1 hin
              have htl : (QR.all ⟨out S.R x, S.F ++ [x]⟩).length ≤ 501 := by have h1 := HL.out; have h2 := HRL.out; have h3 := HFL.out; simp only [QR.all, List.length_append, List.length_cons, List.length_nil] at h1 ⊢; omega
              have hxi : x ∈ QR.all ⟨out S.R x, S.F ++ [x]⟩ := by simp [QR.all]
              have K3 := Lib.hid K3; have HT2 := Lib.hid htl; have HX2 := Lib.hid hxi
              obtain ⟨q, hq⟩ : ∃ q, (out S.R x).length = q := ⟨_, rfl⟩
              rw [hq] at hlen
              have HQ := Lib.hid hq
              clear hin htl hxi hq hxin
              go_wp2_with fail
              refine K3.out.mono ?_; rintro e w3 ⟨rfl, O3, hh, hO, hu⟩
              have H3 := Lib.hid hh; have V3 := Lib.hid (V2.out.updA hu AP2.out)
              have K4 := oq_full hh (by have := HT2.out; show _ ≤ 1000000; omega)
              simp only [] at K4
              obtain ⟨m, hm⟩ : ∃ m, (S.F ++ [x]).length = m := ⟨_, rfl⟩
              have hmf : m = f + 1 := by rw [← hm, List.length_append, HFL.out]; rfl
              rw [hm] at K4
              have K4 := Lib.hid K4
              clear hh hO hu K3 hm
              go_wp2_with fail
              refine K4.out.mono ?_; rintro e w4 ⟨a4, c4, rfl, hv, hc5, hc6, _, hb⟩
              have H4 := Lib.hid (H3.out.grew hb); have V4 := Lib.hid (V3.out.grew hb)
              obtain ⟨b4, off4, ea, -, d0, hsq⟩ := hv.last
              rw [HFL.out] at d0 hsq
              subst ea
              have SM := same11_any w4 hsq V4.out.seq (by omega) (by omega)
              rw [decide_eq_true rfl] at SM
              have SM := Lib.hid SM
              have SL : ∀ w, (Instr.slice 23 (.slice (some ⟨b4, off4, none⟩) m c4) none (some (.int .i64 (f : Int))) none).run Try.prog w = .ok (.slice (some ⟨b4, off4, none⟩) f c4) w := cut11 _ _ _ _ (by omega)
              have em : (m : Int) - 1 = (f : Int) := by omega
              have eq : (r : Int) - 1 = (q : Int) := by omega
              have g1 : (f : Int) < (m : Int) := by omega
              have g0 : (0 : Int) ≤ (f : Int) := by omega
              have tx : ((x : Int) != x) = false := by simp
              have tq : ((q : Int) != (q : Int)) = false := by simp
              have m5 : m ≤ 600 := by omega
              clear hv hb K4 hsq hmf hlen
              go_wp2_with fail
              refine SM.out.mono ?_; rintro e w5 ⟨rfl, hb⟩
              have H5 := Lib.hid (H4.out.grew hb)
              have K6 := oq_ready H5.out (by have := HT2.out; show _ ≤ 1000000; omega)
              simp only [] at K6
              rw [HQ.out] at K6
              have K6 := Lib.hid K6
              clear hb SM d0
              go_wp2_with fail
              refine K6.out.mono ?_; rintro e w6 ⟨a6, c6, rfl, _, _, _, _, hb⟩
              have NX := Lib.hid (show LastR w C b x (.int .i64 ((t + 1 : Nat) : Int)) w6 from ⟨t + 1, O3, _, by omega, rfl, H5.out.grew hb, HX2.out, HT2.out⟩)
              rw [show ((t + 1 : Nat) : Int) = (t : Int) + 1 by omega] at NX
              clear hb K6
              go_wp2
              go_roundw
              case rel => exact NX.out
              case measure => simp [intOf]; omega
            · have K0 := oq_fill H2.out HX64.out (by have := HL.out; show _ ≤ 1000000; omega)
              rw [fill_no hin] at K0
              have hin2 : x ∈ S.F := (mem_all.1 hxin).resolve_left hin
              have K0 := Lib.hid K0; have HI := Lib.hid hin2
              clear hin hin2 hxin
              go_wp2_with fail
              refine K0.out.mono ?_; rintro e w0 ⟨rfl, O0, hh, hO, hu⟩
              have H2' := Lib.hid hh; have V1' := Lib.hid (V1.out.updA hu AP1.out); have AP1' := Lib.hid (AP1.out.step V1.out hO)
              clear hh hO hu K0
              have hin := HI.out
              have K3 := oq_wake H2'.out HX64.out (by have := HL.out; show _ ≤ 1000000; omega)
              rw [wake_yes hin] at K3
              have hlen : (out S.F x).length + 1 = f := by rw [← HFL.out]; exact out_length (all_nodup.1 H2.out.good.nd).2.1 hin
              have htl : (QR.all ⟨S.R ++ [x], out S.F x⟩).length ≤ 501 := by have h1 := HL.out; have h2 := HRL.out; have h3 := HFL.out; simp only [QR.all, List.length_append, List.length_cons, List.length_nil] at h1 ⊢; omega
              have hxi : x ∈ QR.all ⟨S.R ++ [x], out S.F x⟩ := by simp [QR.all]
              have K3 := Lib.hid K3; have HT2 := Lib.hid htl; have HX2 := Lib.hid hxi
              obtain ⟨q, hq⟩ : ∃ q, (out S.F x).length = q := ⟨_, rfl⟩
              rw [hq] at hlen
              have HQ := Lib.hid hq
              clear hin htl hxi hq
              go_wp2_with fail
              refine K3.out.mono ?_; rintro e w3 ⟨rfl, O3, hh, hO, hu⟩
              have H3 := Lib.hid hh; have V3 := Lib.hid (V1'.out.updA hu AP1'.out)
              have K4 := oq_ready hh (by have := HT2.out; show _ ≤ 1000000; omega)
              simp only [] at K4
              obtain ⟨m, hm⟩ : ∃ m, (S.R ++ [x]).length = m := ⟨_, rfl⟩
              have hmf : m = r + 1 := by rw [← hm, List.length_append, HRL.out]; rfl
              rw [hm] at K4
              have K4 := Lib.hid K4
              clear hh hO hu K3 hm
              go_wp2_with fail
              refine K4.out.mono ?_; rintro e w4 ⟨a4, c4, rfl, hv, hc5, hc6, _, hb⟩
              have H4 := Lib.hid (H3.out.grew hb); have V4 := Lib.hid (V3.out.grew hb)
              obtain ⟨b4, off4, ea, -, d0, hsq⟩ := hv.last
              rw [HRL.out] at d0 hsq
              subst ea
              have SM := same11_any w4 hsq V4.out.seq (by omega) (by omega)
              rw [decide_eq_true rfl] at SM
              have SM := Lib.hid SM
              have SL : ∀ w, (Instr.slice 23 (.slice (some ⟨b4, off4, none⟩) m c4) none (some (.int .i64 (r : Int))) none).run Try.prog w = .ok (.slice (some ⟨b4, off4, none⟩) r c4) w := cut11 _ _ _ _ (by omega)
              have em : (m : Int) - 1 = (r : Int) := by omega
              have eq : (f : Int) - 1 = (q : Int) := by omega
              have g1 : (r : Int) < (m : Int) := by omega
              have g0 : (0 : Int) ≤ (r : Int) := by omega
              have tx : ((x : Int) != x) = false := by simp
              have tq : ((q : Int) != (q : Int)) = false := by simp
              have m5 : m ≤ 600 := by omega
              clear hv hb K4 hsq hmf hlen
              go_wp2_with fail
              refine SM.out.mono ?_; rintro e w5 ⟨rfl, hb⟩
              have H5 := Lib.hid (H4.out.grew hb)
              have K6 := oq_full H5.out (by have := HT2.out; show _ ≤ 1000000; omega)
              simp only [] at K6
              rw [HQ.out] at K6
              have K6 := Lib.hid K6
              clear hb SM d0
              go_wp2_with fail
              refine K6.out.mono ?_; rintro e w6 ⟨a6, c6, rfl, _, _, _, _, hb⟩
              have NX := Lib.hid (show LastR w C b x (.int .i64 ((t + 1 : Nat) : Int)) w6 from ⟨t + 1, O3, _, by omega, rfl, H5.out.grew hb, HX2.out, HT2.out⟩)
              rw [show ((t + 1 : Nat) : Int) = (t : Int) + 1 by omega] at NX
              clear hb K6
              go_wp2
              go_roundw
              case rel => exact NX.out
              case measure => simp [intOf]; omega
          · obtain rfl : t = 3 := by omega
            have hbl := hq.below
            clear hq hxin hle
            go_wp2
            go_ret
            exact ⟨rfl, hbl⟩
end Go.Proofs.Ytolccandekgmoaa.queueLast
