/- LedgerSums: the walk. -/
import Derived.Test.YtklblmodpkhjnaaLedMath3
namespace Go.Proofs.Ytklblmodpkhjnaa.ledgerSums
open Go.RowKit LedMath
set_option linter.unusedVariables false

set_option maxRecDepth 100000 in
set_option maxHeartbeats 4000000 in
theorem walk_nat (w : World) {a : Option Addr} {n cap : Nat} (len : Nat) (F : Nat → Nat → Value) (h : Recs w (.slice a n cap) ActL15 len F) (x y z : Nat) (hx : U64B x) (hy : U64B y) (hz : U64B z) :
    Calls Try.prog 7 #[.slice a n cap, .agg #[.int .u64 (x : Int), .int .u64 (y : Int), .int .u64 (z : Int)]] w fun e w' => e = .returned (.bool true) ∧ Below w.heap.size w w' := by
  have X0 := Lib.hid (BoxB.start w x y z)
  have AL := Lib.hid (fun w => alive_any w)
  have GR := Lib.hid (fun w' hw => great_any w h w' hw)
  have FI := Lib.hid (fun w' hw => filled_any w h w' hw)
  clear h
  go_enter Try.func7, Try.ntmps7
  go_wp2_with fail
  refine (AL.out _).mono ?_; rintro e w1 ⟨rfl, hb⟩
  have X1 := Lib.hid (X0.out.grew hb)
  clear hb
  go_wp2_with fail
  refine (GR.out w1 X1.out.below).mono ?_; rintro e w2 ⟨gr, rfl, hb⟩
  have X2 := Lib.hid (X1.out.grew hb)
  clear hb
  cases gr
  rotate_left
  · go_wp2_with fail
    go_ret
    exact ⟨rfl, X2.out.below⟩
  go_wp2_with fail
  refine (FI.out w2 X2.out.below).mono ?_; rintro e w3 ⟨lb, L, rfl, ho⟩
  have O3 := Lib.hid ho
  have GD := Lib.hid ho.led.good
  have XC : Hid (∀ w', Below w2.heap.size w2 w' → w'.cell? ⟨w.heap.size, 0, none⟩ = some (.int .u64 (x : Int)) ∧ w'.cell? ⟨w.heap.size, 1, none⟩ = some (.int .u64 (y : Int)) ∧ w'.cell? ⟨w.heap.size, 2, none⟩ = some (.int .u64 (z : Int))) := Lib.hid fun w' hb => (X2.out.grew hb).c
  clear ho AL GR FI X0 X1
  have KA := Lib.hid (All_any w3 O3.out.led)
  go_wp2_with fail
  refine KA.out.mono ?_; rintro e w4 ⟨v, rfl, hv, hin, hb⟩
  have O4 := Lib.hid (O3.out.grew hb)
  obtain ⟨av, cv, ev, _, _⟩ := hv.slice'
  obtain ⟨N, hN⟩ : ∃ N, L.length = N := ⟨_, rfl⟩
  rw [List.length_map, hN] at ev
  subst ev
  have HN := Lib.hid hN
  have HV := Lib.hid hv.seq
  have hNb : N ≤ 1048576 := by rw [← hN]; exact GD.out.len
  have I0 := Lib.hid (show BytI w4 L (.int .u64 0) (.int .i64 0) w4 from ⟨0, Nat.zero_le _, rfl, rfl, Below.refl _ _⟩)
  clear hv hin hb hN KA O3
  go_wp2
  go_loopw [6, 20] (fun v i wr => BytI w4 L v i wr) (fun _ i _ => N - (intOf i).toNat)
  case atStart => exact I0.out
  case round =>
    clear I0
    obtain ⟨j, hj, rfl, rfl, hb⟩ := hrel
    rw [HN.out] at hj
    by_cases hjn : j < N
    · have t2 : decide (j < N) = true := decide_eq_true hjn
      have t2' : decide ((j : Int) < (N : Int)) = true := decide_eq_true (by omega)
      obtain ⟨e, he⟩ : ∃ e, L[j]? = some e := ⟨_, List.getElem?_eq_getElem (by rw [HN.out]; exact hjn)⟩
      obtain ⟨b, off, ea, k0, k1, k2⟩ := (HV.out.below (Nat.le_refl _) hb).blk (i := j) (x := e.b) (by rw [List.getElem?_map, he]; rfl)
      subst ea
      have q3 : (0 : Int) ≤ (j : Int) := by omega
      have q4 : (j : Int) < (N : Int) := by omega
      have hs := sumN_next he
      have hl := Nat.le_trans (sumN_take L (j + 1)) (sumN_le GD.out)
      obtain ⟨s, hs0⟩ : ∃ s, sumN (L.take j) = s := ⟨_, rfl⟩
      obtain ⟨d, hd⟩ : ∃ d, e.b.2.1 = d := ⟨_, rfl⟩
      rw [hs0, show e.n = d from hd] at hs
      rw [hs0]
      rw [hd] at k1
      rw [hs] at hl
      have SX := Lib.hid hs
      have w1 : IntKind.u64.wrap ((s : Int) + (d : Int)) = (s : Int) + (d : Int) := u64_in _ ⟨by omega, by omega⟩
      have B := Lib.hid hb
      clear hb he hs hl hs0 hd
      go_wp2_with fail
      go_roundw
      case rel => exact ⟨j + 1, by rw [HN.out]; omega, by go_num, by rw [SX.out, Int.natCast_add], B.out.alloc B.out.size _⟩
      case measure => simp [intOf] <;> omega
    · obtain rfl : j = N := by omega
      have t2 : decide (j < j) = false := decide_eq_false hjn
      have t2' : decide ((j : Int) < (j : Int)) = false := decide_eq_false (by omega)
      have eL : L.take j = L := List.take_of_length_le (by rw [HN.out]; exact Nat.le_refl _)
      rw [eL]
      have O5 := Lib.hid (O4.out.grew hb)
      have KA := Lib.hid (All_any _ O5.out.led)
      obtain ⟨S, hS⟩ : ∃ S, sumN L = S := ⟨_, rfl⟩
      rw [hS]
      have HS := Lib.hid hS
      have KB : Hid (∀ w', OL w2 lb (fun k => w2.heap.size ≤ k) L w' → Calls Try.prog 14 #[ptrV lb 0] w' fun r w3 => r = .returned (.int .u64 (S : Int)) ∧ OL w2 lb (fun k => w2.heap.size ≤ k) L w3) := Lib.hid fun w' o => by
        have := Bytes_any w' o.led
        rw [hS] at this
        exact this.mono fun r w3 k => ⟨k.1, o.grew k.2⟩
      clear hb hjn eL hS
      go_wp2_with fail
      refine KA.out.mono ?_; rintro e w6 ⟨v6, rfl, hv, _, hb⟩
      obtain ⟨a6, c6, e6, _, _⟩ := hv.slice'
      rw [List.length_map, HN.out] at e6
      subst e6
      have O6 := Lib.hid (O5.out.grew hb)
      clear hv hb KA
      go_wp2_with fail
      refine (KB.out _ O6.out).mono ?_; rintro e w7 ⟨rfl, ho⟩
      have O7 := Lib.hid ho
      obtain ⟨x0, x1, x2⟩ := XC.out _ ho.below
      have kd := Add_any w7 ho.led hx hy hz
      rcases addE_cases L x y z with hadd | hadd | ⟨hmay, hadd⟩
      · rw [hadd] at kd
        unfold blkV at kd
        have KD := Lib.hid kd
        clear kd hadd ho
        go_wp2_with fail
        refine KD.out.mono ?_; rintro e w8 ⟨rfl, hh, hu⟩
        have O8 := Lib.hid (O7.out.again hh hu)
        clear hh hu KD
        have KA := Lib.hid (fun w' (o : OL w2 lb (fun k => w2.heap.size ≤ k) L w') => All_any w' o.led)
        go_wp2_with fail
        refine (KB.out _ O8.out).mono ?_; rintro e w9 ⟨rfl, ho⟩
        have O9 := Lib.hid ho
        clear ho
        go_wp2_with fail
        refine (KA.out _ O9.out).mono ?_; rintro e w10 ⟨v10, rfl, hv, _, hb⟩
        obtain ⟨a10, c10, e10, _, _⟩ := hv.slice'
        rw [List.length_map, HN.out] at e10
        subst e10
        have O10 := Lib.hid (O9.out.grew hb)
        clear hv hb
        go_wp2_with fail
        go_ret
        exact ⟨rfl, below_then X2.out.below X2.out.below.size O10.out.below⟩
      · rw [hadd] at kd
        unfold blkV at kd
        have KD := Lib.hid kd
        clear kd hadd ho
        go_wp2_with fail
        refine KD.out.mono ?_; rintro e w8 ⟨rfl, hh, hu⟩
        have O8 := Lib.hid (O7.out.again hh hu)
        clear hh hu KD
        have KA := Lib.hid (fun w' (o : OL w2 lb (fun k => w2.heap.size ≤ k) L w') => All_any w' o.led)
        go_wp2_with fail
        refine (KB.out _ O8.out).mono ?_; rintro e w9 ⟨rfl, ho⟩
        have O9 := Lib.hid ho
        clear ho
        go_wp2_with fail
        refine (KA.out _ O9.out).mono ?_; rintro e w10 ⟨v10, rfl, hv, _, hb⟩
        obtain ⟨a10, c10, e10, _, _⟩ := hv.slice'
        rw [List.length_map, HN.out] at e10
        subst e10
        have O10 := Lib.hid (O9.out.grew hb)
        clear hv hb
        go_wp2_with fail
        go_ret
        exact ⟨rfl, below_then X2.out.below X2.out.below.size O10.out.below⟩
      · rw [hadd] at kd
        unfold blkV at kd
        have KD := Lib.hid kd
        have LE := Lib.hid (ins_len L ⟨x, y, z, false⟩)
        have SE := Lib.hid (ins_sum L ⟨x, y, z, false⟩)
        rw [HN.out] at LE
        rw [HS.out] at SE
        have hend := may_end hmay
        have hSb : S ≤ 1048576 := by have := sumN_le GD.out; rw [HS.out] at this; exact this
        have hz0 := may_pos hmay
        obtain ⟨_, _, hrem⟩ := may_p2 hmay
        have q5 : ¬ ((z : Int) = 0) := by omega
        have r1 : (x : Int) % (z : Int) = 0 := by rw [← Int.natCast_emod, hrem]; rfl
        have r2 : Int.tmod (x : Int) (z : Int) = 0 := by rw [← Int.ofNat_tmod, hrem]; rfl
        obtain ⟨S2, hS2⟩ : ∃ S2, S + y = S2 := ⟨_, rfl⟩
        have s1 : (S : Int) + (y : Int) = (S2 : Int) := by omega
        have s2 : IntKind.u64.wrap (S2 : Int) = (S2 : Int) := u64_in _ ⟨by omega, by omega⟩
        rw [show S + (En.mk x y z false).n = S2 from hS2] at SE
        have n1 : IntKind.i64.wrap ((j : Int) + 1) = (j : Int) + 1 := IntWalk.i64_in _ ⟨by omega, by omega⟩
        obtain ⟨L2, hL2⟩ : ∃ L2, insE L ⟨x, y, z, false⟩ = L2 := ⟨_, rfl⟩
        rw [hL2] at KD LE SE
        have KB2 : Hid (∀ w', OL w2 lb (fun k => w2.heap.size ≤ k) L2 w' → Calls Try.prog 14 #[ptrV lb 0] w' fun r w3 => r = .returned (.int .u64 (S2 : Int)) ∧ OL w2 lb (fun k => w2.heap.size ≤ k) L2 w3) := Lib.hid fun w' o => by
          have := Bytes_any w' o.led
          rw [SE.out] at this
          exact this.mono fun r w3 k => ⟨k.1, o.grew k.2⟩
        have KA2 : Hid (∀ w', OL w2 lb (fun k => w2.heap.size ≤ k) L2 w' → Calls Try.prog 13 #[ptrV lb 0] w' fun r w3 => ∃ a3 c3, r = .returned (.slice a3 (j + 1) c3) ∧ OL w2 lb (fun k => w2.heap.size ≤ k) L2 w3) := Lib.hid fun w' o => by
          refine (All_any w' o.led).mono ?_
          rintro r w3 ⟨v3, rfl, hv, _, hb⟩
          obtain ⟨a3, c3, e3, _, _⟩ := hv.slice'
          rw [List.length_map, LE.out] at e3
          exact ⟨a3, c3, by rw [e3], o.grew hb⟩
        clear kd hadd ho hmay hend hSb hz0 hrem hS2 hL2 hx hy hz KB
        go_wp2_with fail
        refine KD.out.mono ?_; rintro e w8 ⟨rfl, hh, hu⟩
        have O8 := Lib.hid (O7.out.again hh hu)
        clear hh hu KD
        obtain ⟨x0, x1, x2⟩ := XC.out _ O8.out.below
        have ST := O8
        go_wp2
        go_region_with (first
            | (go_at_call 14; (first | (with_reducible refine (KB2.out _ (ST.out.grew (Below.refl _ _).drew)).mono ?_) | (with_reducible refine (KB2.out _ ST.out).mono ?_)); rintro r w9 ⟨rfl, hst⟩; obtain ⟨x0, x1, x2⟩ := XC.out _ hst.below; have ST := Lib.hid hst; clear hst)
            | (go_at_call 13; (first | (with_reducible refine (KA2.out _ (ST.out.grew (Below.refl _ _).drew)).mono ?_) | (with_reducible refine (KA2.out _ ST.out).mono ?_)); rintro r w9 ⟨a9, c9, rfl, hst⟩; obtain ⟨x0, x1, x2⟩ := XC.out _ hst.below; have ST := Lib.hid hst; clear hst))
        all_goals go_wp2
        all_goals go_ret
        all_goals exact ⟨rfl, below_then X2.out.below X2.out.below.size ST.out.below⟩
theorem walk (w : World) {a : Option Addr} {n cap : Nat} (len : Nat) (F : Nat → Nat → Value) (h : Recs w (.slice a n cap) ActL15 len F) (x : Int) (hx : (Lit.int .u64 x).wf = true) (y : Int) (hy : (Lit.int .u64 y).wf = true) (z : Int) (hz : (Lit.int .u64 z).wf = true) :
    Calls Try.prog 7 #[.slice a n cap, .agg #[.int .u64 x, .int .u64 y, .int .u64 z]] w fun e w' => e = .returned (.bool true) ∧ Below w.heap.size w w' := by
  have b1 := u64_of' hx
  have b2 := u64_of' hy
  have b3 := u64_of' hz
  rw [b1.1, b2.1, b3.1]
  exact walk_nat w len F h _ _ _ b1.2 b2.2 b3.2
end Go.Proofs.Ytklblmodpkhjnaa.ledgerSums
