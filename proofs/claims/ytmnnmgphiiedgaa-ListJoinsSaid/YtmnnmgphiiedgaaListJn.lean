/- Lists (layer 7): the landed Join: its contract. -/
import Derived.Test.YtmnnmgphiiedgaaListAl
import Derived.Test.YtmnnmgphiiedgaaListPp
import Derived.LaidEqlPtr
import Derived.IntWalk
namespace Go.Proofs.Ytmnnmgphiiedgaa
open Go.RowKit ListMath
set_option linter.unusedVariables false

theorem infoList : (Try.prog.info? 33).map (·.size) = some 2 := by kernel_rfl
theorem ptr_other {w : World} {lp o op o2 : Nat} {lh oh : Nat} {ln on : Int} (l : LCell w lp o lh ln) (k : LCell w op o2 oh on) (hne : ¬ (op = lp ∧ o2 = o)) :
    (binOp .eql 48 (.pointer (some ⟨op, o2, none⟩)) (.pointer (some ⟨lp, o, none⟩))).run Try.prog w = .ok (.bool false) w := by
  obtain ⟨t, cs, b, _⟩ := l
  obtain ⟨t2, cs2, b2, _⟩ := k
  have hi := infoList
  cases hj : Try.prog.info? 33 with
  | none => rw [hj] at hi; cases hi
  | some j =>
    rw [hj] at hi
    refine run_eql_ptr_other w Try.underlying48 hj (by simp at hi; omega) (fun e => hne ?_) b2 b
    injection e with e1 e2 _
    exact ⟨e1, e2⟩
theorem ptr_same (w : World) (lp o : Nat) : (binOp .eql 48 (.pointer (some ⟨lp, o, none⟩)) (.pointer (some ⟨lp, o, none⟩))).run Try.prog w = .ok (.bool true) w := by
  have hi := infoList
  cases hj : Try.prog.info? 33 with
  | none => rw [hj] at hi; cases hi
  | some j => exact run_eql_ptr_same w _ Try.underlying48 hj
theorem below_upd {S : Nat → Prop} {w w' : World} (h : Below w.heap.size w w') : Upd S w w' := (updFalse_of h).mono fun _ x => x.elim
set_option maxHeartbeats 4000000 in
theorem join_any (w : World) {p g lp o op o2 : Nat} {L : List Nat} {lh oh : Nat} {ln on : Int} (R : IsMem w p g L) (l : LCell w lp o lh ln) (k : LCell w op o2 oh on) (nq : lp ≠ p ∧ op ≠ p) (nh : lp ≠ g ∧ op ≠ g) (ha : Apart2 lp o op o2) (hlh : U64B lh) (hoh : U64B oh) (hln : CntB ln) (hon : CntB on) :
    Calls Try.prog 18 #[.pointer (some ⟨lp, o, none⟩), .pointer (some ⟨p, 0, none⟩), .pointer (some ⟨op, o2, none⟩)] w fun e w' => e = .returned (.int .i64 (if (joinN L lh ln oh on).isSome then 0 else 3)) ∧
      IsMem w' p g (joinG L lh oh ln on).1.L ∧ LCell w' lp o (joinG L lh oh ln on).1.h (joinG L lh oh ln on).1.n ∧ LCell w' op o2 (joinG L lh oh ln on).2.h (joinG L lh oh ln on).2.n ∧ Wrt (fun b => b = g) (fun b i => LPl lp o b i ∨ LPl op o2 b i) w w' := by
  have HR := Lib.hid (right_any w R k hoh hon)
  obtain ⟨ap1, ap2, ap3, ap4⟩ := Aside.at ha
  have hne : ¬ (op = lp ∧ o2 = o) := by rintro ⟨rfl, rfl⟩; unfold Apart2 at ha; omega
  have hpe := ptr_other l k hne
  have hll := l.lt
  have hkl := k.lt
  have R0 := Lib.hid R; have L0 := Lib.hid l; have K0 := Lib.hid k; have NQ := Lib.hid nq; have NH := Lib.hid nh
  have A1 := Lib.hid ap1; have A2 := Lib.hid ap2; have A3 := Lib.hid ap3; have A4 := Lib.hid ap4
  obtain ⟨ln0, ln1⟩ := hln
  obtain ⟨on0, on1⟩ := hon
  unfold joinG
  cases hal : allN ⟨L, oh, on⟩ with
  | none =>
    rw [joinN_none hal]
    rw [hal] at HR
    simp only [Option.getD_none, Option.isSome_none] at HR ⊢
    clear hal R l k nq nh ha ap1 ap2 ap3 ap4
    go_enter Try.func18, Try.ntmps18
    go_wp2_with fail
    refine HR.out.mono ?_; rintro e w1 ⟨rfl, hb⟩
    have R1 := Lib.hid (R0.out.upd (updFalse_of hb) id id); have L1 := Lib.hid (L0.out.upd (updFalse_of hb) id); have K1 := Lib.hid (K0.out.upd (updFalse_of hb) id)
    have W1 := Lib.hid (Wrt.ofBelow (S := fun b => b = g) (C := fun b i => LPl lp o b i ∨ LPl op o2 b i) hb)
    clear hb
    go_wp2
    go_ret
    exact ⟨rfl, R1.out, L1.out, K1.out, W1.out⟩
  | some r =>
    rw [hal] at HR
    simp only [Option.isSome_some] at HR
    by_cases hr : r = []
    · subst hr
      rw [joinN_nil hal]
      simp only [Option.getD_some, Option.isSome_some, if_true]
      have hon0 : on = 0 := by
        have h1 := allN_row (s := ⟨L, oh, on⟩) on0
        rw [hal] at h1
        cases hc : chainN L oh on with
        | none => simp only [hc] at h1; cases h1
        | some q =>
          simp only [hc] at h1
          split at h1
          · rename_i hq
            injection h1 with h1
            subst h1
            simp at hq
            omega
          · cases h1
      subst hon0
      clear hal R l k nq nh ha ap1 ap2 ap3 ap4
      go_enter Try.func18, Try.ntmps18
      go_wp2_with fail
      refine HR.out.mono ?_; rintro e w1 ⟨rfl, hb⟩
      have R1 := Lib.hid (R0.out.upd (updFalse_of hb) id id); have L1 := Lib.hid (L0.out.upd (updFalse_of hb) id)
      have k1 := K0.out.upd (updFalse_of hb) id
      have W1 := Lib.hid (Wrt.ofBelow (S := fun b => b = g) (C := fun b i => LPl lp o b i ∨ LPl op o2 b i) hb)
      have K1 := Lib.hid k1
      have d0 : w1.cell? ⟨op, o2, none⟩ = some (.int .u64 (oh : Int)) := k1.c0
      have d1 : w1.cell? ⟨op, o2 + 1, none⟩ = some (.int .i64 0) := k1.c1
      have g0 : w1.frozen? ⟨op, o2, none⟩ = false := k1.frozen _
      have g1 : w1.frozen? ⟨op, o2 + 1, none⟩ = false := k1.frozen _
      clear hb k1
      go_wp2
      go_ret
      refine ⟨rfl, (R1.out.upd (upd_set _) (fun e => NQ.out.2 e.symm) (fun e => NH.out.2 e.symm)).upd (upd_set _) (fun e => NQ.out.2 e.symm) (fun e => NH.out.2 e.symm), (L1.out.keep (wrt_head (lp := op) (o := o2) _) id A3.out A4.out).keep (wrt_count (lp := op) (o := o2) _) id A3.out A4.out, (K1.out.head 0).count 0, (W1.out.setCell (Or.inr ⟨rfl, Or.inl rfl⟩) _).setCell (Or.inr ⟨rfl, Or.inr rfl⟩) _⟩
    · obtain ⟨c, z, hc, hz, hlast, hz8, hon'⟩ := allN_last hal on0 hr
      simp only [] at hz8 hon'
      rw [joinN_cons hal hr, hlast]
      simp only [Option.getD_some, Option.isSome_some, if_true]
      rw [hc] at hon'
      have hzb : z ≤ 18446744073709551615 := by have := R.big; omega
      have hlz : lastP (walkF L (mostF L on) oh) = z := by rw [← hlast]; unfold lastP; rw [← all_some on0 hal]
      have HZ8 := Lib.hid hz8
      have HLS := Lib.hid (fun (w' : World) (hb : Below w.heap.size w w') => last_any p g op o2 L oh on w' (R.upd (updFalse_of hb) id id) (k.upd (updFalse_of hb) id) hoh (by omega) (by omega))
      rw [hlz] at HLS
      have t1 : decide ((0 : Int) < on) = true := decide_eq_true (by omega)
      have ST := Lib.hid (fun (w' : World) (r : IsMem w' p g L) => store8 w' r z lh hzb hlh)
      rw [if_pos hz8] at ST
      rw [if_pos hz8] at ST
      clear hal R l k nq nh ha ap1 ap2 ap3 ap4 hr hc hz hlast hz8 hon' hlz
      go_enter Try.func18, Try.ntmps18
      go_wp2_with fail
      refine HR.out.mono ?_; rintro e w1 ⟨rfl, hb⟩
      have l1 := L0.out.upd (updFalse_of hb) id
      have k1 := K0.out.upd (updFalse_of hb) id
      have B1 := Lib.hid hb
      have c0 : w1.cell? ⟨lp, o, none⟩ = some (.int .u64 (lh : Int)) := l1.c0
      have d1 : w1.cell? ⟨op, o2 + 1, none⟩ = some (.int .i64 on) := k1.c1
      have hlw : lp < w1.heap.size := l1.lt
      clear hb l1 k1
      go_wp2_with fail
      go_region_held3 (fun w' => w'.cell? ⟨lp, o, none⟩ = some (.int .u64 (lh : Int))) (first | go_keep | exact c0)
        (first
          | (go_at_call 34; (first | (with_reducible refine (HLS.out _ (B1.out.drew)).mono ?_)); rintro e w4 ⟨rfl, hb4⟩; have B4 := Lib.hid (below_then B1.out.drew B1.out.drew.size hb4); have c0 : w4.cell? ⟨lp, o, none⟩ = some (.int .u64 (lh : Int)) := (hb4.cell (p := ⟨lp, o, none⟩) hlw).trans c0; clear hb4)
          | (go_at_call 20; (first | (with_reducible refine (ST.out _ (R0.out.upd (updFalse_of B4.out) id id)).mono ?_)); rintro e w5 ⟨rfl, hr5, hu5⟩; have R5 := Lib.hid hr5; have U5 := Lib.hid ((below_upd B4.out).trans hu5); have c0 : w5.cell? ⟨lp, o, none⟩ = some (.int .u64 (lh : Int)) := (L0.out.upd ((below_upd B4.out).trans hu5) NH.out.1).c0; clear hr5 hu5))
      have L5 := Lib.hid (L0.out.upd U5.out NH.out.1)
      have K5 := Lib.hid (K0.out.upd U5.out NH.out.2)
      have W5 := Lib.hid (Wrt.ofUpd (C := fun b i => LPl lp o b i ∨ LPl op o2 b i) U5.out)
      clear c0 d1 hlw hpe t1
      have c0 : w5.cell? ⟨lp, o, none⟩ = some (.int .u64 (lh : Int)) := L5.out.c0
      have f0 : w5.frozen? ⟨lp, o, none⟩ = false := L5.out.frozen _
      have d0 : w5.cell? ⟨op, o2, none⟩ = some (.int .u64 (oh : Int)) := K5.out.c0
      -- behind the head
      have L6 := Lib.hid (L5.out.head oh)
      have K6 := Lib.hid (K5.out.keep (wrt_head (lp := lp) (o := o) (.int .u64 (oh : Int))) id A1.out A2.out)
      have R6 := Lib.hid (R5.out.upd (upd_set (lp := lp) (i := o) (.int .u64 (oh : Int))) (fun e => NQ.out.1 e.symm) (fun e => NH.out.1 e.symm))
      have W6 := Lib.hid (W5.out.setCell (b := lp) (i := o) (Or.inl ⟨rfl, Or.inl rfl⟩) (.int .u64 (oh : Int)))
      go_wp2_with fail
      obtain ⟨w6, hw6⟩ : ∃ x, w5.setCell ⟨lp, o, none⟩ (.int .u64 (oh : Int)) = x := ⟨_, rfl⟩
      rw [hw6] at L6 K6 R6 W6 ⊢
      clear hw6 c0 f0 d0
      have c1 : w6.cell? ⟨lp, o + 1, none⟩ = some (.int .i64 ln) := L6.out.c1
      have f1 : w6.frozen? ⟨lp, o + 1, none⟩ = false := L6.out.frozen _
      have d1 : w6.cell? ⟨op, o2 + 1, none⟩ = some (.int .i64 on) := K6.out.c1
      have wr3 : IntKind.i64.wrap (ln + on) = ln + on := IntWalk.i64_in _ ⟨by omega, by omega⟩
      go_region
      have L7 := Lib.hid ((L6.out.count (ln + on)).upd (Upd.refl (fun _ => False) _).drew id)
      have K7 := Lib.hid ((K6.out.keep (wrt_count (lp := lp) (o := o) (.int .i64 (ln + on))) id A1.out A2.out).upd (Upd.refl (fun _ => False) _).drew id)
      have R7 := Lib.hid ((R6.out.upd (upd_set (lp := lp) (i := o + 1) (.int .i64 (ln + on))) (fun e => NQ.out.1 e.symm) (fun e => NH.out.1 e.symm)).upd (Upd.refl (fun _ => False) _).drew id id)
      have W7 := Lib.hid ((W6.out.setCell (b := lp) (i := o + 1) (Or.inl ⟨rfl, Or.inr rfl⟩) (.int .i64 (ln + on))).upd' (Upd.refl (fun _ => False) _).drew (fun _ h => h.elim))
      obtain ⟨w7, hw7⟩ : ∃ x, (w6.setCell ⟨lp, o + 1, none⟩ (.int .i64 (ln + on))).drew = x := ⟨_, rfl⟩
      rw [hw7] at L7 K7 R7 W7 ⊢
      clear hw7 c1 f1 d1 wr3
      have d0 : w7.cell? ⟨op, o2, none⟩ = some (.int .u64 (oh : Int)) := K7.out.c0
      have d1 : w7.cell? ⟨op, o2 + 1, none⟩ = some (.int .i64 on) := K7.out.c1
      have g0 : w7.frozen? ⟨op, o2, none⟩ = false := K7.out.frozen _
      have g1 : w7.frozen? ⟨op, o2 + 1, none⟩ = false := K7.out.frozen _
      go_wp2
      go_ret
      exact ⟨rfl, (R7.out.upd (upd_set _) (fun e => NQ.out.2 e.symm) (fun e => NH.out.2 e.symm)).upd (upd_set _) (fun e => NQ.out.2 e.symm) (fun e => NH.out.2 e.symm), (L7.out.keep (wrt_head (lp := op) (o := o2) _) id A3.out A4.out).keep (wrt_count (lp := op) (o := o2) _) id A3.out A4.out, (K7.out.head 0).count 0, (W7.out.setCell (Or.inr ⟨rfl, Or.inl rfl⟩) _).setCell (Or.inr ⟨rfl, Or.inr rfl⟩) _⟩
set_option maxHeartbeats 1000000 in
theorem join_self (w : World) (p lp o : Nat) : Calls Try.prog 18 #[.pointer (some ⟨lp, o, none⟩), .pointer (some ⟨p, 0, none⟩), .pointer (some ⟨lp, o, none⟩)] w fun e w' => e = .returned (.int .i64 2) ∧ Below w.heap.size w w' := by
  have hpe := ptr_same w lp o
  go_enter Try.func18, Try.ntmps18
  go_wp2
  go_ret
  exact ⟨rfl, Below.refl _ _⟩
set_option maxHeartbeats 1000000 in
theorem push_nil (w : World) (p : Nat) : Calls Try.prog 24 #[.pointer none, .pointer (some ⟨p, 0, none⟩), .slice none 0 0] w fun e w' => e = .returned (.int .i64 1) ∧ Below w.heap.size w w' := by
  go_enter Try.func24, Try.ntmps24
  go_wp2
  go_ret
  exact ⟨rfl, Below.refl _ _⟩
/-- The landed lists keep what the laws need. -/
theorem lig (w0 : World) : LiG w0 where
  push w hw {p g lp o s a k cap l} hm hl hne hk hcap hx hk2 hh hn := push_any w hm hl hne hx hk2 hh hn
  push_nil w hw {p g L} hm := push_nil w p
  pop w hw {p g lp o s} hm hh hn := pop_any w hm hh hn
  all w hw {p g lp o s} hm hl hh hn := all_any w hm hl hh hn
  join w hw {p g lp o op o2 L lh oh ln on} hm hl hk h1 h2 ha b1 b2 b3 b4 := join_any w hm hl hk h1 h2 ha b1 b2 b3 b4
  join_self w hw {p g lp o L lh ln} hm hl := join_self w p lp o
  chain w hw {p g L h m} hm h1 h2 h3 := chain_any p g L h m w hm h1 h2 h3
end Go.Proofs.Ytmnnmgphiiedgaa
