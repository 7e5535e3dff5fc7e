/- The document's own lists (allotmentref07), at any place: Push, Pop, Row: contracts. -/
import Derived.Test.YtmnnmgphiiedgaaRefM
import Derived.Test.YtmnnmgphiiedgaaPlaces
import Derived.Test.YtmnnmgphiiedgaaPushMath
import Derived.Test.YtmnnmgphiiedgaaQuiet
import Derived.Laws.Small
namespace Go.Proofs.Ytmnnmgphiiedgaa
open Go.RowKit ListMath
set_option linter.unusedVariables false

/-- The document's memory, and a list somewhere. -/
structure RL (w : World) (q h lp o : Nat) (s : LS) : Prop where
  mem : IsRef w q h s.L
  lst : LCell w lp o s.h s.n
  nq : lp ≠ q
  nh : lp ≠ h
def PushR (w : World) (q h lp o k : Nat) (s : LS) (l : List Nat) (i : Value) (wr : World) : Prop :=
  ∃ j : Nat, j ≤ k ∧ i = .int .i64 (j : Int) ∧ (pushN s (l.take j)).2 = 0 ∧ RL wr q h lp o (pushN s (l.take j)).1 ∧ Wrt (fun b => b = h) (LPl lp o) w wr
set_option maxHeartbeats 2000000 in
theorem refl_push (w : World) {q h lp o : Nat} {s : LS} (R : RL w q h lp o s) {a : Option Addr} {k cap : Nat} {l : List Nat} (hq : Seq Elem.u64s w (.slice a k cap) l) (hne : 0 < k → ∀ b, In (.slice a k cap) b → b ≠ h ∧ b ≠ lp) (hx : ∀ x ∈ l, x ≤ 18446744073709551615) (hk : k ≤ 100000) (hh : s.h ≤ 18446744073709551615) (hn : 0 ≤ s.n ∧ s.n ≤ 1000000000) :
    Calls Try.prog 25 #[.pointer (some ⟨lp, o, none⟩), .pointer (some ⟨q, 0, none⟩), .slice a k cap] w fun e w' => e = .returned (.int .i64 (pushN s l).2) ∧ RL w' q h lp o (pushN s l).1 ∧ Wrt (fun b => b = h) (LPl lp o) w w' := by
  have hlen := hq.len
  have Q := Lib.hid hq; have NE := Lib.hid hne; have HX := Lib.hid hx; have HK := Lib.hid hlen
  have R0 := Lib.hid R
  obtain ⟨E, hE⟩ : ∃ E, pushN s l = E := ⟨_, rfl⟩
  rw [hE]
  have HE := Lib.hid hE
  clear hq hne hx hlen R hE
  go_enter Try.func25, Try.ntmps25
  go_wp2
  go_loopw [12] (fun i wr => PushR w q h lp o k s l i wr) (fun i _ => k - (intOf i).toNat)
  case atStart => exact ⟨0, Nat.zero_le _, rfl, rfl, R0.out, Wrt.refl _ _ _⟩
  case round =>
    obtain ⟨j, hj, rfl, hz, hr, hw⟩ := hrel
    by_cases hjk : j < k
    · obtain ⟨x, hx⟩ : ∃ x, l[j]? = some x := ⟨l[j]'(by rw [← HK.out]; exact hjk), List.getElem?_eq_getElem _⟩
      have hxb := HX.out x (List.mem_of_getElem? hx)
      have hjn := pushN_n (l.take j) s
      have hjl : (l.take j).length = j := by rw [List.length_take, ← HK.out]; omega
      rw [hjl] at hjn
      have hnext := pushN_take hx hz
      have hhalt := pushN_halt hx hz
      have hb2 := fun b (hb : In (.slice a k cap) b) => hw.upd.block b
      have hcellsAt : ∃ b off, a = some ⟨b, off, none⟩ ∧ wr.cell? ⟨b, off + j, none⟩ = some (.int .u64 (x : Int)) := by
        obtain ⟨b, off, rfl, hc⟩ := Q.out.elem hx
        have h0 := hc 0 (.int .u64 (x : Int)) rfl
        simp only [Elem.u64s, Nat.add_zero, Nat.mul_one] at h0
        have hlt := World.block_lt_of_cell? w _ h0
        have hn := NE.out (by omega) b rfl
        refine ⟨b, off, rfl, (World.cell?_of_block (a := ⟨b, off + j, none⟩) (hw.upd.block b hlt ?_)).trans h0⟩
        rintro (e | ⟨i, e, _⟩)
        · exact hn.1 e
        · exact hn.2 e
      obtain ⟨b, off, rfl, d0⟩ := hcellsAt
      obtain ⟨⟨Lj, hd, n⟩, hS⟩ : ∃ S, (pushN s (l.take j)).1 = S := ⟨_, rfl⟩
      rw [hS] at hr hnext hhalt hjn
      have hhd : hd ≤ 18446744073709551615 := by
        have := pushN_h (l.take j) s hh (fun x hx => HX.out x (List.mem_of_mem_take hx))
        rw [hS] at this; exact this
      simp only [] at hjn
      have c0 : wr.cell? ⟨lp, o, none⟩ = some (.int .u64 (hd : Int)) := hr.lst.c0
      have f0 : wr.frozen? ⟨lp, o, none⟩ = false := hr.lst.frozen _
      have ST := Lib.hid (ref_store wr hr.mem x hd hxb hhd)
      have t1 : decide ((j : Int) < (k : Int)) = true := decide_eq_true (by omega)
      have t1' : decide (j < k) = true := decide_eq_true hjk
      have j0 : (0 : Int) ≤ (j : Int) := by omega
      have j1 : (j : Int) < (k : Int) := by omega
      have RR := Lib.hid hr; have WW := Lib.hid hw; have HNX := Lib.hid hnext; have HHL := Lib.hid hhalt
      obtain ⟨hj1, hj2, hj3⟩ := hjn
      have HJ3 := Lib.hid hj3
      clear hr hw hnext hhalt hx hz hS hjl hb2 hj3
      by_cases hx0 : x = 0
      · subst hx0
        have hp : push1 ⟨Lj, hd, n⟩ 0 = (⟨Lj, hd, n⟩, 2) := by unfold push1; rw [if_pos rfl]
        have hE : E = (⟨Lj, hd, n⟩, 2) := by rw [← HE.out, HHL.out (by rw [hp]; show (2 : Int) ≠ 0; decide), hp]
        subst hE
        have t2 : (((0 : Nat) : Int) == 0) = true := by decide
        clear hp ST
        go_wp2
        go_ret
        exact ⟨rfl, RR.out, WW.out⟩
      · have t2 : ((x : Int) == 0) = false := by rw [beq_eq_false_iff_ne]; omega
        by_cases h8 : x + 8 ≤ Lj.length
        · rw [if_pos h8, if_pos h8] at ST
          have hp : push1 ⟨Lj, hd, n⟩ x = (⟨MemMath.put8 Lj x hd, x, n + 1⟩, 0) := by unfold push1; rw [if_neg hx0, if_pos h8]
          rw [hp] at HNX
          clear hp hx0 h8
          go_wp2_with fail
          refine ST.out.mono ?_; rintro e w6 ⟨rfl, hr6, hu6⟩
          have R6 := Lib.hid hr6
          have l6 := RR.out.lst.upd hu6 RR.out.nh
          have W6 := Lib.hid (WW.out.upd' hu6 (fun _ h => h))
          have L6 := Lib.hid l6
          clear c0 f0
          have c0 : w6.cell? ⟨lp, o, none⟩ = some (.int .u64 (hd : Int)) := l6.c0
          have f0 : w6.frozen? ⟨lp, o, none⟩ = false := l6.frozen _
          have c1 : w6.cell? ⟨lp, o + 1, none⟩ = some (.int .i64 n) := l6.c1
          have f1 : w6.frozen? ⟨lp, o + 1, none⟩ = false := l6.frozen _
          clear hr6 hu6 l6
          go_wp2
          go_roundw
          case rel =>
            refine ⟨j + 1, by omega, by go_num, by rw [HNX.out], ?_, (W6.out.setCell ⟨rfl, Or.inl rfl⟩ _).setCell ⟨rfl, Or.inr rfl⟩ _⟩
            rw [HNX.out]
            have hl := (L6.out.head x).count (n + 1)
            refine ⟨(R6.out.upd ((Upd.refl (fun b => b = lp) w6).setCell (.inl rfl) _) (fun e => RR.out.nq e.symm) (fun e => RR.out.nh e.symm)).upd ((Upd.refl (fun b => b = lp) _).setCell (.inl rfl) _) (fun e => RR.out.nq e.symm) (fun e => RR.out.nh e.symm), hl, RR.out.nq, RR.out.nh⟩
          case measure => simp [intOf]; omega
        · rw [if_neg h8, if_neg h8] at ST
          have hp : push1 ⟨Lj, hd, n⟩ x = (⟨Lj, hd, n⟩, 3) := by unfold push1; rw [if_neg hx0, if_neg h8]
          have hE : E = (⟨Lj, hd, n⟩, 3) := by rw [← HE.out, HHL.out (by rw [hp]; show (3 : Int) ≠ 0; decide), hp]
          subst hE
          clear hp hx0 h8
          go_wp2_with fail
          refine ST.out.mono ?_; rintro e w6 ⟨rfl, hr6, hu6⟩
          have R6 := Lib.hid hr6
          have L6 := Lib.hid (RR.out.lst.upd hu6 RR.out.nh)
          have W6 := Lib.hid (WW.out.upd' hu6 (fun _ h => h))
          clear hr6 hu6
          go_wp2
          go_ret
          exact ⟨rfl, ⟨R6.out, L6.out, RR.out.nq, RR.out.nh⟩, W6.out⟩
    · obtain rfl : j = k := by omega
      have t1 : decide ((j : Int) < (j : Int)) = false := decide_eq_false (by omega)
      have htk : l.take j = l := by rw [HK.out, List.take_length]
      rw [htk, HE.out] at hz hr
      have RR := Lib.hid hr; have WW := Lib.hid hw
      have HZ := Lib.hid hz
      clear hr hw htk hz
      go_wp2
      go_ret
      rw [HZ.out]
      exact ⟨rfl, RR.out, WW.out⟩
theorem RL.upd {S : Nat → Prop} {w w' : World} {q h lp o : Nat} {s : LS} (R : RL w q h lp o s) (u : Upd S w w') (hq : ¬ S q) (hh : ¬ S h) (hl : ¬ S lp) : RL w' q h lp o s := ⟨R.mem.upd u hq hh, R.lst.upd u hl, R.nq, R.nh⟩
theorem ref_load' {w : World} {q h : Nat} {L : List Nat} (r : IsRef w q h L) (a : Nat) (ha : a ≤ 18446744073709551615) : (a + 8 ≤ L.length → Calls Try.prog 31 #[.pointer (some ⟨q, 0, none⟩), .int .u64 (a : Int), .int .i64 8] w fun e w' => e = .returned (.tuple #[.int .u64 (linkAt L a : Int), .int .i64 0]) ∧ w = w') ∧
    (¬ a + 8 ≤ L.length → Calls Try.prog 31 #[.pointer (some ⟨q, 0, none⟩), .int .u64 (a : Int), .int .i64 8] w fun e w' => e = .returned (.tuple #[.int .u64 0, .int .i64 3]) ∧ w = w') := by
  have := ref_load w r a ha
  constructor
  · intro h; rw [if_pos h] at this; exact this
  · intro h; rw [if_neg h] at this; exact this
set_option maxHeartbeats 1000000 in
theorem refl_pop (w : World) {q h lp o : Nat} {s : LS} (R : RL w q h lp o s) (hh : s.h ≤ 18446744073709551615) (hn : 0 ≤ s.n ∧ s.n ≤ 1000000000) :
    Calls Try.prog 14 #[.pointer (some ⟨lp, o, none⟩), .pointer (some ⟨q, 0, none⟩)] w fun e w' => e = .returned (.tuple #[.int .u64 ((popN s).2.1 : Int), .int .i64 (popN s).2.2]) ∧ RL w' q h lp o (popN s).1 ∧ Wrt (fun _ => False) (LPl lp o) w w' := by
  obtain ⟨L, hd, n⟩ := s
  simp only [] at hh hn
  obtain ⟨n0, n1⟩ := hn
  have c0 : w.cell? ⟨lp, o, none⟩ = some (.int .u64 (hd : Int)) := R.lst.c0
  have f0 : w.frozen? ⟨lp, o, none⟩ = false := R.lst.frozen _
  have c1 : w.cell? ⟨lp, o + 1, none⟩ = some (.int .i64 n) := R.lst.c1
  have f1 : w.frozen? ⟨lp, o + 1, none⟩ = false := R.lst.frozen _
  have HL := ref_load' R.mem hd hh
  have RR := Lib.hid R
  simp only [] at HL
  clear R
  by_cases hz : n = 0
  · subst hz
    have e : popN ⟨L, hd, 0⟩ = (⟨L, hd, 0⟩, 0, 5) := by unfold popN; rw [if_pos rfl]
    rw [e]
    clear e HL
    go_enter Try.func14, Try.ntmps14
    go_wp2
    go_ret2
    exact ⟨rfl, RR.out, Wrt.refl _ _ _⟩
  · have t1 : ((n : Int) == 0) = false := by rw [beq_eq_false_iff_ne]; exact hz
    by_cases h8 : hd + 8 ≤ L.length
    · have e : popN ⟨L, hd, n⟩ = (⟨L, linkAt L hd, n - 1⟩, hd, 0) := by unfold popN; rw [if_neg hz, if_pos h8]
      rw [e]
      have HC := Lib.hid (HL.1 h8)
      obtain ⟨k, hk⟩ : ∃ k, linkAt L hd = k := ⟨_, rfl⟩
      rw [hk] at HC ⊢
      clear e HL h8 hk hz
      go_enter Try.func14, Try.ntmps14
      go_wp2_with (go_at_call 31; refine HC.out.mono ?_; rintro e w1 ⟨rfl, rfl⟩)
      go_ret2
      have hl := (RR.out.lst.head k).count (n - 1)
      exact ⟨rfl, ⟨(RR.out.mem.upd ((Upd.refl (fun b => b = lp) w).setCell (.inl rfl) _) (fun e => RR.out.nq e.symm) (fun e => RR.out.nh e.symm)).upd ((Upd.refl (fun b => b = lp) _).setCell (.inl rfl) _) (fun e => RR.out.nq e.symm) (fun e => RR.out.nh e.symm), hl, RR.out.nq, RR.out.nh⟩, ((Wrt.refl _ _ w).setCell ⟨rfl, Or.inl rfl⟩ _).setCell ⟨rfl, Or.inr rfl⟩ _⟩
    · have e : popN ⟨L, hd, n⟩ = (⟨L, hd, n⟩, 0, 3) := by unfold popN; rw [if_neg hz, if_neg h8]
      rw [e]
      have HC := Lib.hid (HL.2 h8)
      clear e HL h8 hz
      go_enter Try.func14, Try.ntmps14
      go_wp2_with (go_at_call 31; refine HC.out.mono ?_; rintro e w1 ⟨rfl, rfl⟩)
      go_ret2
      exact ⟨rfl, RR.out, Wrt.refl _ _ _⟩
def sLen : Value → Nat
  | .slice _ n _ => n
  | _ => 0
def RowR (w : World) (L : List Nat) (m h0 : Nat) (k v : Value) (wr : World) : Prop :=
  ∃ (x : Nat) (r : List Nat), k = .int .u64 (x : Int) ∧ x ≤ 18446744073709551615 ∧ r.length ≤ m ∧ rowF L m h0 = (rowF L (m - r.length) x).map (fun t => r ++ t) ∧ Vec Elem.u64s wr v r ∧ (∀ b, In v b → w.heap.size ≤ b) ∧ Below w.heap.size w wr
theorem linkAt_le {L : List Nat} (h : MemMath.Byt L) {a : Nat} (h8 : a + 8 ≤ L.length) : linkAt L a ≤ 18446744073709551615 := by
  have := MemMath.val_lt (h.part a 8)
  rw [MemMath.length_part h8] at this
  unfold linkAt; omega
set_option maxHeartbeats 2000000 in
theorem refl_row (w : World) {q h : Nat} {L : List Nat} (R : IsRef w q h L) (h0 : Nat) (hh : h0 ≤ 18446744073709551615) (m : Int) (hm1 : -9223372036854775808 ≤ m) (hm2 : m ≤ 9223372036854775807) :
    Calls Try.prog 23 #[.pointer (some ⟨q, 0, none⟩), .int .u64 (h0 : Int), .int .i64 m] w fun e w' => ∃ a k cap, e = .returned (.tuple #[.slice a k cap, .bool (chainN L h0 m).isSome]) ∧ Seq Elem.u64s w' (.slice a k cap) ((chainN L h0 m).getD []) ∧ k ≤ cap ∧ cap ≤ 9223372036854775807 ∧ (∀ b, In (.slice a k cap) b → w.heap.size ≤ b) ∧ Below w.heap.size w w' := by
  obtain ⟨i0, hi, hz0, hz1, hz2⟩ := info_parts infoU64
  have hbig := R.big
  have RR := Lib.hid R
  have c0 : w.cell? ⟨q, 0, none⟩ = some (.slice (some ⟨h, 0, none⟩) L.length L.length) := R.head.cell 0
  obtain ⟨N, hN⟩ : ∃ N, L.length = N := ⟨_, rfl⟩
  have HN := Lib.hid hN
  rw [hN] at c0 hbig
  -- most
  obtain ⟨z, hz⟩ : ∃ z : Int, (if (N : Int) < m then (N : Int) else m) = z := ⟨_, rfl⟩
  have hzm : z.toNat = min m.toNat N := by rw [← hz]; split <;> omega
  have hzle : z ≤ (N : Int) := by rw [← hz]; split <;> omega
  have hzge : -9223372036854775808 ≤ z := by rw [← hz]; split <;> omega
  have hmin : ∀ w, (Builtin.min_ #[3, 3] 3 #[.int .i64 m, .int .i64 (N : Int)]).run Try.prog w = .ok (.int .i64 z) w := fun w => by rw [run_min_int2, hz]
  have hch : chainN L h0 m = rowF L z.toNat h0 := by unfold chainN; rw [hN, hzm]
  rw [hch]
  obtain ⟨Z, hZ⟩ : ∃ Z, z.toNat = Z := ⟨_, rfl⟩
  rw [hZ]
  have HZ := Lib.hid hZ
  obtain ⟨OUT, hOUT⟩ : ∃ x, rowF L Z h0 = x := ⟨_, rfl⟩
  have HO := Lib.hid hOUT
  rw [hOUT]
  have hb64 : Z ≤ 1048576 := by omega
  clear R hN hzm hch hZ hOUT hz
  go_enter Try.func23, Try.ntmps23
  go_wp2
  clear hmin
  go_loopw [1, 8] (fun k v wr => RowR w L Z h0 k v wr) (fun k v _ => Z + 1 - sLen v)
  case atStart => exact ⟨h0, [], rfl, hh, Nat.zero_le _, by simp, Vec.nil _, (by intro b hb; cases hb), Below.refl _ _⟩
  case round =>
    obtain ⟨x, r, rfl, hx, hr, hrow, hv, hin, hb⟩ := hrel
    obtain ⟨a', cap', rfl, hc1, hc2⟩ := hv.slice'
    obtain ⟨c, hc⟩ : ∃ c, r.length = c := ⟨_, rfl⟩
    rw [hc] at hr hc1 hv hin
    rw [hc]
    have HC := Lib.hid hc; have V := Lib.hid hv; have NI := Lib.hid hin; have B := Lib.hid hb; have RW := Lib.hid hrow
    have sr := hb.size
    have R2 := RR.out.upd (updFalse_of hb) id id
    have HR2 := Lib.hid R2
    clear hc hv hin hb hrow R2
    by_cases hx0 : x = 0
    · subst hx0
      have t1 : (((0 : Nat) : Int) != 0) = false := by decide
      have hO : OUT = some r := by rw [← HO.out]; exact rowF_done RW.out
      subst hO
      have VV := V.out
      rw [← HC.out] at VV
      go_wp2
      go_ret2
      refine ⟨a', r.length, cap', ?_, VV.seq, by rw [HC.out]; exact hc1, hc2, fun b hb => ?_, B.out⟩
      · rw [HC.out]; rfl
      · rw [HC.out] at hb; exact NI.out b hb
    · have t1 : ((x : Int) != 0) = true := by rw [bne_iff_ne]; omega
      by_cases hov : z ≤ (c : Int)
      · have t2 : decide (z ≤ (c : Int)) = true := decide_eq_true hov
        have hO : OUT = none := by rw [← HO.out]; exact rowF_over RW.out hx0 (by rw [HC.out, ← HZ.out]; omega)
        subst hO
        go_wp2
        go_ret2
        exact ⟨none, 0, 0, rfl, Seq.nil _, Nat.le_refl _, by decide, (by intro b hb; cases hb), B.out⟩
      · have t2 : decide (z ≤ (c : Int)) = false := decide_eq_false hov
        have hcZ : c < Z := by rw [← HZ.out]; omega
        have hql := RR.out.head.lt
        have hhl := RR.out.row.lt
        have BZ0 : Below wr.heap.size wr (wr.alloc (.cells #[.int .u64 (x : Int)] 28)) := (Below.refl _ wr).alloc (Nat.le_refl _) _
        by_cases h8 : x + 8 ≤ L.length
        · have hstep := rowF_step RW.out hx0 (by rw [HC.out]; exact hcZ) h8
          have hlk := linkAt_le RR.out.byt h8
          obtain ⟨k', hk'⟩ : ∃ k, linkAt L x = k := ⟨_, rfl⟩
          have HK' := Lib.hid hk'
          rw [hk'] at hstep hlk
          have HST := Lib.hid hstep; have H8 := Lib.hid h8
          clear hk' hstep hx0 hov h8
          go_wp2_with (at_builtin; refine wpList_append_vec (E := Elem.u64s) rfl (.tmp 24) (.tmp 26) 37 rfl 28 i0 (.int .u64 0) 8 Try.underlying37 hi hz0 hz1 hz2 rfl (.slice a' c cap') (.slice (some ⟨wr.heap.size, 0, none⟩) 1 1) r [x] rfl rfl (V.out.alloc _) (u64_oneAt _ _ x _ rfl) ?_ ?_ ?_; (rw [HC.out]; simp only [maxLen, List.length_cons, List.length_nil]; omega); (rw [HC.out]; simp only [List.length_cons, List.length_nil]; omega); intro v2 w2 hv2 hu2 hin2; have V2 := Lib.hid hv2; have BZ := Lib.hid (vec_below (B.out.alloc sr _) (Nat.le_trans sr (by simp)) NI.out hu2); have N2 := Lib.hid hin2; have R3 := Lib.hid (HR2.out.upd (updFalse_of BZ0) id id |>.upd hu2 (fun e => by have := NI.out _ e; omega) (fun e => by have := NI.out _ e; omega)); clear hv2 hu2 hin2)
          have HLD := (ref_load' R3.out x hx).1 H8.out
          rw [HK'.out] at HLD
          have HL2 := Lib.hid HLD
          clear HLD
          refine HL2.out.mono ?_; rintro e w5 ⟨rfl, rfl⟩
          have hl2 : (r ++ [x]).length = c + 1 := by rw [List.length_append, HC.out]; rfl
          have HL3 := Lib.hid hl2
          obtain ⟨a2, cap2, e2, _, _⟩ := V2.out.slice'
          have E2 := Lib.hid e2
          clear e2 hl2
          go_wp2
          go_roundw
          case rel =>
            refine ⟨k', r ++ [x], rfl, hlk, by rw [HL3.out]; omega, HST.out, V2.out, fun b hb => ?_, BZ.out⟩
            rcases N2.out b hb with y | y
            · exact NI.out b y
            · simp at y; omega
          case measure =>
            rw [E2.out, HL3.out]
            simp [sLen]; omega
        · have hO : OUT = none := by rw [← HO.out]; exact rowF_beyond RW.out hx0 h8
          subst hO
          have H8 := Lib.hid h8
          clear h8 hx0 hov
          go_wp2_with (at_builtin; refine wpList_append_vec (E := Elem.u64s) rfl (.tmp 24) (.tmp 26) 37 rfl 28 i0 (.int .u64 0) 8 Try.underlying37 hi hz0 hz1 hz2 rfl (.slice a' c cap') (.slice (some ⟨wr.heap.size, 0, none⟩) 1 1) r [x] rfl rfl (V.out.alloc _) (u64_oneAt _ _ x _ rfl) ?_ ?_ ?_; (rw [HC.out]; simp only [maxLen, List.length_cons, List.length_nil]; omega); (rw [HC.out]; simp only [List.length_cons, List.length_nil]; omega); intro v2 w2 hv2 hu2 hin2; have V2 := Lib.hid hv2; have BZ := Lib.hid (vec_below (B.out.alloc sr _) (Nat.le_trans sr (by simp)) NI.out hu2); have N2 := Lib.hid hin2; have R3 := Lib.hid (HR2.out.upd (updFalse_of BZ0) id id |>.upd hu2 (fun e => by have := NI.out _ e; omega) (fun e => by have := NI.out _ e; omega)); clear hv2 hu2 hin2)
          have HL2 := Lib.hid ((ref_load' R3.out x hx).2 H8.out)
          refine HL2.out.mono ?_; rintro e w5 ⟨rfl, rfl⟩
          go_wp2
          go_ret2
          exact ⟨none, 0, 0, rfl, Seq.nil _, Nat.le_refl _, by decide, (by intro b hb; cases hb), BZ.out⟩
end Go.Proofs.Ytmnnmgphiiedgaa
