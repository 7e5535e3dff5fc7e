/- The document's own lists (allotmentref07), at any place: All, Join: contracts. -/
import Derived.Test.YtmnnmgphiiedgaaRefL
import Derived.Deep.RegionHeld3
namespace Go.Proofs.Ytmnnmgphiiedgaa
open Go.RowKit ListMath
set_option linter.unusedVariables false

theorem allN_row {s : LS} (hn : 0 ≤ s.n) : allN s = match chainN s.L s.h s.n with
    | some r => if r.length = s.n.toNat then some r else none
    | none => none := by
  unfold allN chainN; rw [if_neg (by omega)]
  cases rowF s.L (min s.n.toNat s.L.length) s.h <;> rfl
set_option maxHeartbeats 2000000 in
theorem refl_all (w : World) {q h lp o : Nat} {s : LS} (R : IsRef w q h s.L) (l : LCell w lp o s.h s.n) (hh : s.h ≤ 18446744073709551615) (hn : 0 ≤ s.n ∧ s.n ≤ 1000000) :
    Calls Try.prog 16 #[.pointer (some ⟨lp, o, none⟩), .pointer (some ⟨q, 0, none⟩)] w fun e w' => ∃ a k cap, e = .returned (.tuple #[.slice a k cap, .int .i64 (if (allN s).isSome then 0 else 3)]) ∧ Seq Elem.u64s w' (.slice a k cap) ((allN s).getD []) ∧ k ≤ cap ∧ cap ≤ 9223372036854775807 ∧ (∀ b, In (.slice a k cap) b → w.heap.size ≤ b) ∧ Below w.heap.size w w' := by
  obtain ⟨L, hd, n⟩ := s
  simp only [] at hh hn R l
  obtain ⟨n0, n1⟩ := hn
  have hlt := l.lt
  have c0 : w.cell? ⟨lp, o, none⟩ = some (.int .u64 (hd : Int)) := l.c0
  have c1 : w.cell? ⟨lp, o + 1, none⟩ = some (.int .i64 n) := l.c1
  have HROW := Lib.hid (fun (w' : World) (hb : Below w.heap.size w w') => refl_row w' (R.upd (updFalse_of hb) id id) hd hh n (by omega) (by omega))
  have hal := allN_row (s := ⟨L, hd, n⟩) n0
  simp only [] at hal
  obtain ⟨A, hA⟩ : ∃ A, allN ⟨L, hd, n⟩ = A := ⟨_, rfl⟩
  obtain ⟨C, hC⟩ : ∃ C, chainN L hd n = C := ⟨_, rfl⟩
  rw [hA, hC] at hal
  rw [hC] at HROW
  rw [hA]
  have t1 : decide (n < 0) = false := decide_eq_false (by omega)
  have t2 : decide ((1048576 : Int) < n) = false := decide_eq_false (by omega)
  have HAL := Lib.hid hal
  clear R l hA hC hal
  go_enter Try.func16, Try.ntmps16
  go_wp2_with fail
  go_region_held3 (fun w' => w'.cell? ⟨lp, o, none⟩ = some (.int .u64 (hd : Int)) ∧ w'.cell? ⟨lp, o + 1, none⟩ = some (.int .i64 n)) (first | go_keep | exact ⟨c0, c1⟩)
    (first
      | (go_at_call 23; (first | (with_reducible refine (HROW.out _ (Below.refl _ _).drew).mono ?_) | (with_reducible refine (HROW.out _ (Below.refl _ _)).mono ?_)); rintro e w5 ⟨a, k, cap, rfl, hq, hk1, hk2, hin, hb⟩; have B5 := Lib.hid ((Below.refl w.heap.size w).drew.trans hb); have Q5 := Lib.hid hq; have N5 := Lib.hid hin; have c0 : w5.cell? ⟨lp, o, none⟩ = some (.int .u64 (hd : Int)) := (B5.out.cell (p := ⟨lp, o, none⟩) hlt).trans c0; have c1 : w5.cell? ⟨lp, o + 1, none⟩ = some (.int .i64 n) := (B5.out.cell (p := ⟨lp, o + 1, none⟩) hlt).trans c1; clear hq hin hb))
  cases C with
  | none =>
    have hA : A = none := HAL.out
    subst hA
    have t3 : (Option.isSome (none : Option (List Nat))) = false := rfl
    go_wp2
    go_ret2
    exact ⟨none, 0, 0, rfl, Seq.nil _, Nat.le_refl _, by decide, (by intro b hb; cases hb), B5.out⟩
  | some r =>
    have t3 : (Option.isSome (some r)) = true := rfl
    have hkr := Q5.out.len
    simp only [Option.getD_some] at hkr
    have HK := Lib.hid hkr
    clear hkr
    by_cases hl : (k : Int) = n
    · have t4 : ((k : Int) != n) = false := by rw [bne_eq_false_iff_eq]; exact hl
      have hA : A = some r := by
        rw [HAL.out]; simp only []; rw [if_pos (by rw [← HK.out]; omega)]
      subst hA
      clear hl
      go_wp2
      go_ret2
      exact ⟨a, k, cap, rfl, Q5.out, hk1, hk2, N5.out, B5.out⟩
    · have t4 : ((k : Int) != n) = true := by rw [bne_iff_ne]; exact hl
      have hA : A = none := by
        rw [HAL.out]; simp only []; rw [if_neg (by rw [← HK.out]; omega)]
      subst hA
      clear hl
      go_wp2
      go_ret2
      exact ⟨none, 0, 0, rfl, Seq.nil _, Nat.le_refl _, by decide, (by intro b hb; cases hb), B5.out⟩
/-- Two lists' places don't meet. -/
def Aside (lp o op o2 : Nat) : Prop := lp ≠ op ∨ o + 2 ≤ o2 ∨ o2 + 2 ≤ o
theorem Aside.at {lp o op o2 : Nat} (h : Aside lp o op o2) : ¬ LPl lp o op o2 ∧ ¬ LPl lp o op (o2 + 1) ∧ ¬ LPl op o2 lp o ∧ ¬ LPl op o2 lp (o + 1) := by
  unfold Aside at h; unfold LPl
  refine ⟨?_, ?_, ?_, ?_⟩ <;> (rintro ⟨e, x⟩; omega)
theorem wrt_head {w : World} {lp o : Nat} (u : Value) : Wrt (fun _ => False) (LPl lp o) w (w.setCell ⟨lp, o, none⟩ u) := (Wrt.refl _ _ w).setCell ⟨rfl, Or.inl rfl⟩ u
theorem wrt_count {w : World} {lp o : Nat} (u : Value) : Wrt (fun _ => False) (LPl lp o) w (w.setCell ⟨lp, o + 1, none⟩ u) := (Wrt.refl _ _ w).setCell ⟨rfl, Or.inr rfl⟩ u
theorem upd_set {w : World} {lp i : Nat} (u : Value) : Upd (fun b => b = lp) w (w.setCell ⟨lp, i, none⟩ u) := (Upd.refl (fun b => b = lp) w).setCell (.inl rfl) u
/-- What joining leaves. -/
def joinD (L : List Nat) (lh oh : Nat) (ln on : Int) : LS × LS := (joinN L lh ln oh on).getD (⟨L, lh, ln⟩, ⟨L, oh, on⟩)
theorem joinN_none {L : List Nat} {lh oh : Nat} {ln on : Int} (h : allN ⟨L, oh, on⟩ = none) : joinN L lh ln oh on = none := by unfold joinN; rw [h]
theorem joinN_nil {L : List Nat} {lh oh : Nat} {ln on : Int} (h : allN ⟨L, oh, on⟩ = some []) : joinN L lh ln oh on = some (⟨L, lh, ln⟩, ⟨L, 0, 0⟩) := by unfold joinN; rw [h]
theorem joinN_cons {L : List Nat} {lh oh : Nat} {ln on : Int} {r : List Nat} (h : allN ⟨L, oh, on⟩ = some r) (hr : r ≠ []) : joinN L lh ln oh on = some (⟨MemMath.put8 L (lastD r) lh, oh, ln + on⟩, ⟨MemMath.put8 L (lastD r) lh, 0, 0⟩) := by
  unfold joinN; rw [h]
  cases r with
  | nil => exact absurd rfl hr
  | cons a t => rfl
theorem allN_last {s : LS} {r : List Nat} (h : allN s = some r) (hn : 0 ≤ s.n) (hr : r ≠ []) : ∃ c z, r.length = c + 1 ∧ r[c]? = some z ∧ lastD r = z ∧ z + 8 ≤ s.L.length ∧ s.n = (r.length : Int) := by
  have h1 := allN_row hn
  rw [h] at h1
  cases hc : chainN s.L s.h s.n with
  | none => rw [hc] at h1; cases h1
  | some q =>
    rw [hc] at h1
    simp only [] at h1
    split at h1
    · rename_i hq
      injection h1 with h1
      subst h1
      have hch := (chain_rowF hc).1
      rcases List.eq_nil_or_concat r with e | ⟨t, z, e⟩
      · exact absurd e hr
      · rw [List.concat_eq_append] at e
        have hz : r[t.length]? = some z := by rw [e]; simp
        refine ⟨t.length, z, by rw [e]; simp, hz, by rw [e]; unfold lastD; simp, ?_, by omega⟩
        have h2 := hch.drop t.length z hz
        obtain ⟨hl, ez⟩ := List.getElem?_eq_some_iff.1 hz
        rw [List.drop_eq_getElem_cons hl] at h2
        obtain ⟨x, _, y, _⟩ := h2
        rw [x]; exact y
    · cases h1
set_option maxHeartbeats 4000000 in
theorem refl_join (w : World) {q h lp o op o2 : Nat} {L : List Nat} {lh oh : Nat} {ln on : Int} (R : IsRef w q h L) (l : LCell w lp o lh ln) (k : LCell w op o2 oh on) (nq : lp ≠ q ∧ op ≠ q) (nh : lp ≠ h ∧ op ≠ h) (ha : Aside lp o op o2) (hlh : lh ≤ 18446744073709551615) (hoh : oh ≤ 18446744073709551615) (hln : 0 ≤ ln ∧ ln ≤ 1000000) (hon : 0 ≤ on ∧ on ≤ 1000000) :
    Calls Try.prog 19 #[.pointer (some ⟨lp, o, none⟩), .pointer (some ⟨q, 0, none⟩), .pointer (some ⟨op, o2, none⟩)] w fun e w' => e = .returned (.int .i64 (if (joinN L lh ln oh on).isSome then 0 else 3)) ∧
      IsRef w' q h (joinD L lh oh ln on).1.L ∧ LCell w' lp o (joinD L lh oh ln on).1.h (joinD L lh oh ln on).1.n ∧ LCell w' op o2 (joinD L lh oh ln on).2.h (joinD L lh oh ln on).2.n ∧ Wrt (fun b => b = h) (fun b i => LPl lp o b i ∨ LPl op o2 b i) w w' := by
  have HALL := Lib.hid (refl_all w (s := ⟨L, oh, on⟩) R k hoh hon)
  obtain ⟨ap1, ap2, ap3, ap4⟩ := ha.at
  have hll := l.lt
  have hkl := k.lt
  have R0 := Lib.hid R; have L0 := Lib.hid l; have K0 := Lib.hid k; have NQ := Lib.hid nq; have NH := Lib.hid nh
  have A1 := Lib.hid ap1; have A2 := Lib.hid ap2; have A3 := Lib.hid ap3; have A4 := Lib.hid ap4
  obtain ⟨ln0, ln1⟩ := hln
  obtain ⟨on0, on1⟩ := hon
  unfold joinD
  cases hal : allN ⟨L, oh, on⟩ with
  | none =>
    rw [joinN_none hal]
    rw [hal] at HALL
    simp only [Option.getD_none, Option.isSome_none] at HALL ⊢
    clear hal R l k nq nh ha ap1 ap2 ap3 ap4
    go_enter Try.func19, Try.ntmps19
    go_wp2_with fail
    refine HALL.out.mono ?_; rintro e w1 ⟨a, c, cap, rfl, hq, hk1, hk2, hin, hb⟩
    have R1 := Lib.hid (R0.out.upd (updFalse_of hb) id id); have L1 := Lib.hid (L0.out.upd (updFalse_of hb) id); have K1 := Lib.hid (K0.out.upd (updFalse_of hb) id)
    have W1 := Lib.hid (Wrt.ofBelow (S := fun b => b = h) (C := fun b i => LPl lp o b i ∨ LPl op o2 b i) hb)
    clear hq hin hb
    go_wp2
    go_ret
    exact ⟨rfl, R1.out, L1.out, K1.out, W1.out⟩
  | some r =>
    rw [hal] at HALL
    simp only [Option.getD_some, Option.isSome_some, if_true] at HALL
    by_cases hr : r = []
    · subst hr
      rw [joinN_nil hal]
      simp only [Option.getD_some, Option.isSome_some, if_true]
      clear hal R l k nq nh ha ap1 ap2 ap3 ap4
      go_enter Try.func19, Try.ntmps19
      go_wp2_with fail
      refine HALL.out.mono ?_; rintro e w1 ⟨a, c, cap, rfl, hq, hk1, hk2, hin, hb⟩
      obtain rfl : c = 0 := hq.len
      have R1 := Lib.hid (R0.out.upd (updFalse_of hb) id id); have L1 := Lib.hid (L0.out.upd (updFalse_of hb) id)
      have k1 := K0.out.upd (updFalse_of hb) id
      have W1 := Lib.hid (Wrt.ofBelow (S := fun b => b = h) (C := fun b i => LPl lp o b i ∨ LPl op o2 b i) hb)
      have K1 := Lib.hid k1
      have d0 : w1.cell? ⟨op, o2, none⟩ = some (.int .u64 (oh : Int)) := k1.c0
      have d1 : w1.cell? ⟨op, o2 + 1, none⟩ = some (.int .i64 on) := k1.c1
      have g0 : w1.frozen? ⟨op, o2, none⟩ = false := k1.frozen _
      have g1 : w1.frozen? ⟨op, o2 + 1, none⟩ = false := k1.frozen _
      have t1 : decide ((0 : Int) < ((0 : Nat) : Int)) = false := by decide
      clear hq hin hb k1
      go_wp2
      go_ret
      refine ⟨rfl, (R1.out.upd (upd_set _) (fun e => NQ.out.2 e.symm) (fun e => NH.out.2 e.symm)).upd (upd_set _) (fun e => NQ.out.2 e.symm) (fun e => NH.out.2 e.symm), (L1.out.keep (wrt_head (lp := op) (o := o2) _) id A3.out A4.out).keep (wrt_count (lp := op) (o := o2) _) id A3.out A4.out, (K1.out.head 0).count 0, (W1.out.setCell (Or.inr ⟨rfl, Or.inl rfl⟩) _).setCell (Or.inr ⟨rfl, Or.inr rfl⟩) _⟩
    · obtain ⟨c, z, hc, hz, hlast, hz8, hon'⟩ := allN_last hal on0 hr
      simp only [] at hz8 hon'
      rw [joinN_cons hal hr, hlast]
      simp only [Option.getD_some, Option.isSome_some, if_true]
      rw [hc] at hon'
      have hzb : z ≤ 18446744073709551615 := by have := R.big; omega
      have HC := Lib.hid hc; have HZ := Lib.hid hz; have HZ8 := Lib.hid hz8
      have hc6 : c + 1 ≤ 1000000 := by omega
      obtain ⟨c1, hc1⟩ : ∃ x, c + 1 = x := ⟨_, rfl⟩
      rw [hc1] at hc6
      have e1 : (c1 : Int) - 1 = (c : Int) := by omega
      have hcp : 0 < c1 := by omega
      have HC1 := Lib.hid hc1
      have hcc : c < c1 := by omega
      clear hal R l k nq nh ha ap1 ap2 ap3 ap4 hr hc hz hlast hz8 hon' hc1
      go_enter Try.func19, Try.ntmps19
      go_wp2_with fail
      refine HALL.out.mono ?_; rintro e w1 ⟨a, n', cap, rfl, hq, hk1, hk2, hin, hb⟩
      have hn' : n' = c1 := by rw [hq.len, HC.out, HC1.out]
      subst hn'
      obtain ⟨b8, off8, rfl, hcell⟩ := hq.elem HZ.out
      have v0 := hcell 0 (.int .u64 (z : Int)) rfl
      simp only [Elem.u64s, Nat.add_zero, Nat.mul_one] at v0
      have r1 := R0.out.upd (updFalse_of hb) id id; have l1 := L0.out.upd (updFalse_of hb) id
      have k1 := K0.out.upd (updFalse_of hb) id
      have W1 := Lib.hid (Wrt.ofBelow (S := fun b => b = h) (C := fun b i => LPl lp o b i ∨ LPl op o2 b i) hb)
      have R1 := Lib.hid r1; have L1 := Lib.hid l1; have K1 := Lib.hid k1
      have c0 : w1.cell? ⟨lp, o, none⟩ = some (.int .u64 (lh : Int)) := l1.c0
      have t1 : decide ((0 : Int) < (n' : Int)) = true := decide_eq_true (by omega)
      have t1' : decide (0 < n') = true := decide_eq_true hcp
      have j0 : (0 : Int) ≤ (c : Int) := by omega
      have j1 : (c : Int) < (n' : Int) := by omega
      have ST := Lib.hid (fun (w' : World) (r : IsRef w' q h L) => ref_store w' r z lh hzb hlh)
      have e1 : (n' : Int) - 1 = (c : Int) := by omega
      have wr1 : IntKind.i64.wrap ((n' : Int) - 1) = (n' : Int) - 1 := IntWalk.i64_in _ ⟨by omega, by omega⟩
      have wr2 : IntKind.i64.wrap (c : Int) = (c : Int) := IntWalk.i64_in _ ⟨by omega, by omega⟩
      have hb8 : b8 ≠ h := by have := hin b8 rfl; have := R0.out.row.lt; omega
      have hl8 : b8 < w1.heap.size := World.block_lt_of_cell? w1 _ v0
      clear hq hcell hin hb r1 l1 k1
      go_wp2_with fail
      go_region_held3 (fun w' => w'.cell? ⟨lp, o, none⟩ = some (.int .u64 (lh : Int)) ∧ w'.cell? ⟨b8, off8 + c, none⟩ = some (.int .u64 (z : Int))) (first | go_keep | exact ⟨c0, v0⟩)
        (first
          | (go_at_call 21; (first | (with_reducible refine (ST.out _ (R1.out.upd (updFalse_of (Below.refl _ w1).drew) id id)).mono ?_) | (with_reducible refine (ST.out _ R1.out).mono ?_)); rintro e w5 ⟨rfl, hr5, hu5⟩; have R5 := Lib.hid hr5; have U5 := Lib.hid (Upd.after ((Below.refl w1.heap.size w1).drew) hu5); have L5 := Lib.hid (L1.out.upd U5.out NH.out.1); have c0 : w5.cell? ⟨lp, o, none⟩ = some (.int .u64 (lh : Int)) := L5.out.c0; have v0 : w5.cell? ⟨b8, off8 + c, none⟩ = some (.int .u64 (z : Int)) := (World.cell?_of_block (a := ⟨b8, off8 + c, none⟩) (U5.out.block b8 hl8 hb8)).trans v0; clear hr5 hu5))
      have K5 := Lib.hid (K1.out.upd U5.out NH.out.2)
      have W5 := Lib.hid (W1.out.upd' U5.out (fun _ h => h))
      clear v0 wr1 wr2 e1
      have f0 : w5.frozen? ⟨lp, o, none⟩ = false := L5.out.frozen _
      have d0 : w5.cell? ⟨op, o2, none⟩ = some (.int .u64 (oh : Int)) := K5.out.c0
      -- behind the head
      have L6 := Lib.hid (L5.out.head oh)
      have K6 := Lib.hid (K5.out.keep (wrt_head (lp := lp) (o := o) (.int .u64 (oh : Int))) id A1.out A2.out)
      have R6 := Lib.hid (R5.out.upd (upd_set (lp := lp) (i := o) (.int .u64 (oh : Int))) (fun e => NQ.out.1 e.symm) (fun e => NH.out.1 e.symm))
      have W6 := Lib.hid (W5.out.setCell (b := lp) (i := o) (Or.inl ⟨rfl, Or.inl rfl⟩) (.int .u64 (oh : Int)))
      go_wp2_with fail
      obtain ⟨w6, hw6⟩ : ∃ x, w5.setCell ⟨lp, o, none⟩ (.int .u64 (oh : Int)) = x := ⟨_, rfl⟩
      rw [hw6] at L6 K6 R6 W6 ⊢
      clear hw6 c0 f0 d0
      have c1 : w6.cell? ⟨lp, o + 1, none⟩ = some (.int .i64 ln) := L6.out.c1
      have f1 : w6.frozen? ⟨lp, o + 1, none⟩ = false := L6.out.frozen _
      have d1 : w6.cell? ⟨op, o2 + 1, none⟩ = some (.int .i64 on) := K6.out.c1
      have wr3 : IntKind.i64.wrap (ln + on) = ln + on := IntWalk.i64_in _ ⟨by omega, by omega⟩
      go_region
      have L7 := Lib.hid ((L6.out.count (ln + on)).upd (Upd.refl (fun _ => False) _).drew id)
      have K7 := Lib.hid ((K6.out.keep (wrt_count (lp := lp) (o := o) (.int .i64 (ln + on))) id A1.out A2.out).upd (Upd.refl (fun _ => False) _).drew id)
      have R7 := Lib.hid ((R6.out.upd (upd_set (lp := lp) (i := o + 1) (.int .i64 (ln + on))) (fun e => NQ.out.1 e.symm) (fun e => NH.out.1 e.symm)).upd (Upd.refl (fun _ => False) _).drew id id)
      have W7 := Lib.hid ((W6.out.setCell (b := lp) (i := o + 1) (Or.inl ⟨rfl, Or.inr rfl⟩) (.int .i64 (ln + on))).upd' (Upd.refl (fun _ => False) _).drew (fun _ h => h.elim))
      obtain ⟨w7, hw7⟩ : ∃ x, (w6.setCell ⟨lp, o + 1, none⟩ (.int .i64 (ln + on))).drew = x := ⟨_, rfl⟩
      rw [hw7] at L7 K7 R7 W7 ⊢
      clear hw7 c1 f1 d1 wr3
      have d0 : w7.cell? ⟨op, o2, none⟩ = some (.int .u64 (oh : Int)) := K7.out.c0
      have d1 : w7.cell? ⟨op, o2 + 1, none⟩ = some (.int .i64 on) := K7.out.c1
      have g0 : w7.frozen? ⟨op, o2, none⟩ = false := K7.out.frozen _
      have g1 : w7.frozen? ⟨op, o2 + 1, none⟩ = false := K7.out.frozen _
      go_wp2
      go_ret
      have R8 := R7.out
      rw [if_pos HZ8.out] at R8
      exact ⟨rfl, (R8.upd (upd_set _) (fun e => NQ.out.2 e.symm) (fun e => NH.out.2 e.symm)).upd (upd_set _) (fun e => NQ.out.2 e.symm) (fun e => NH.out.2 e.symm), (L7.out.keep (wrt_head (lp := op) (o := o2) _) id A3.out A4.out).keep (wrt_count (lp := op) (o := o2) _) id A3.out A4.out, (K7.out.head 0).count 0, (W7.out.setCell (Or.inr ⟨rfl, Or.inl rfl⟩) _).setCell (Or.inr ⟨rfl, Or.inr rfl⟩) _⟩
end Go.Proofs.Ytmnnmgphiiedgaa
