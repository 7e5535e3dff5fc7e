/- Lists (layer 7): the landed Push, Pop: contracts. -/
import Derived.Test.YtmnnmgphiiedgaaListIt
namespace Go.Proofs.Ytmnnmgphiiedgaa
open Go.RowKit ListMath
set_option linter.unusedVariables false

theorem store_out' {w : World} {p g : Nat} {L : List Nat} (h : IsMem w p g L) (addr x : Nat) (hx' : x ≤ 18446744073709551615) (hn : L.length < addr + 8) :
    Calls Try.prog 20 #[.pointer (some ⟨p, 0, none⟩), .int .u64 (addr : Int), .int .i64 8, .int .u64 (x : Int)] w fun e w' => e = .returned (.int .i64 3) ∧ w = w' := by
  have HW := Lib.hid (word_out h addr 8 x (.inr (.inr (.inr rfl))) (by show x < 256 ^ 8; omega) hx' hn)
  clear h hn
  go_enter Try.func20, Try.ntmps20
  go_wp2_with (go_at_call 35; refine HW.out.mono ?_; rintro e w' ⟨rfl, rfl⟩)
  go_ret
  exact ⟨rfl, rfl⟩
theorem store8 (w : World) {p g : Nat} {L : List Nat} (h : IsMem w p g L) (a x : Nat) (ha : a ≤ 18446744073709551615) (hx : x ≤ 18446744073709551615) :
    Calls Try.prog 20 #[.pointer (some ⟨p, 0, none⟩), .int .u64 (a : Int), .int .i64 8, .int .u64 (x : Int)] w fun e w' => e = .returned (.int .i64 (if a + 8 ≤ L.length then 0 else 3)) ∧ IsMem w' p g (if a + 8 ≤ L.length then MemMath.put8 L a x else L) ∧ Upd (fun b => b = g) w w' := by
  by_cases h8 : a + 8 ≤ L.length
  · rw [if_pos h8, if_pos h8]
    exact store_ok h a 8 x (.inr (.inr (.inr rfl))) (by show x < 256 ^ 8; omega) hx h8
  · rw [if_neg h8, if_neg h8]
    refine (store_out' h a x hx (by omega)).mono ?_
    rintro e w' ⟨rfl, rfl⟩
    exact ⟨rfl, h, Upd.refl _ _⟩
theorem load8' {w : World} {p g : Nat} {L : List Nat} (h : IsMem w p g L) (a : Nat) :
    (a + 8 ≤ L.length → Calls Try.prog 30 #[.pointer (some ⟨p, 0, none⟩), .int .u64 (a : Int), .int .i64 8] w fun e w' => e = .returned (.tuple #[.int .u64 (linkAt L a : Int), .int .i64 0]) ∧ w = w') ∧
    (¬ a + 8 ≤ L.length → Calls Try.prog 30 #[.pointer (some ⟨p, 0, none⟩), .int .u64 (a : Int), .int .i64 8] w fun e w' => e = .returned (.tuple #[.int .u64 0, .int .i64 3]) ∧ w = w') := ⟨fun h8 => load8 h h8, fun h8 => load8_out h h8⟩
def PushP (w : World) (p g lp o k : Nat) (s : LS) (l : List Nat) (i : Value) (wr : World) : Prop :=
  ∃ j : Nat, j ≤ k ∧ i = .int .i64 (j : Int) ∧ (pushN s (l.take j)).2 = 0 ∧ PL wr p g lp o (pushN s (l.take j)).1 ∧ Wrt (fun b => b = g) (LPl lp o) w wr
set_option maxHeartbeats 2000000 in
theorem push_any (w : World) {p g lp o : Nat} {s : LS} (R : PL w p g lp o s) {a : Option Addr} {k cap : Nat} {l : List Nat} (hq : Seq Elem.u64s w (.slice a k cap) l) (hne : 0 < k → ∀ b, In (.slice a k cap) b → b ≠ g ∧ b ≠ lp) (hx : ∀ x ∈ l, x ≤ 18446744073709551615) (hk : k ≤ 100000) (hh : s.h ≤ 18446744073709551615) (hn : 0 ≤ s.n ∧ s.n ≤ 1000000000) :
    Calls Try.prog 24 #[.pointer (some ⟨lp, o, none⟩), .pointer (some ⟨p, 0, none⟩), .slice a k cap] w fun e w' => e = .returned (.int .i64 (pushN s l).2) ∧ PL w' p g lp o (pushN s l).1 ∧ Wrt (fun b => b = g) (LPl lp o) w w' := by
  have hlen := hq.len
  have Q := Lib.hid hq; have NE := Lib.hid hne; have HX := Lib.hid hx; have HK := Lib.hid hlen
  have R0 := Lib.hid R
  obtain ⟨E, hE⟩ : ∃ E, pushN s l = E := ⟨_, rfl⟩
  rw [hE]
  have HE := Lib.hid hE
  clear hq hne hx hlen R hE
  go_enter Try.func24, Try.ntmps24
  go_wp2
  go_loopw [18] (fun i wr => PushP w p g lp o k s l i wr) (fun i _ => k - (intOf i).toNat)
  case atStart => exact ⟨0, Nat.zero_le _, rfl, rfl, R0.out, Wrt.refl _ _ _⟩
  case round =>
    obtain ⟨j, hj, rfl, hz, hr, hw⟩ := hrel
    by_cases hjk : j < k
    · obtain ⟨x, hx⟩ : ∃ x, l[j]? = some x := ⟨l[j]'(by rw [← HK.out]; exact hjk), List.getElem?_eq_getElem _⟩
      have hxb := HX.out x (List.mem_of_getElem? hx)
      have hjn := pushN_n (l.take j) s
      have hjl : (l.take j).length = j := by rw [List.length_take, ← HK.out]; omega
      rw [hjl] at hjn
      have hnext := pushN_take hx hz
      have hhalt := pushN_halt hx hz
      have hb2 := fun b (hb : In (.slice a k cap) b) => hw.upd.block b
      have hcellsAt : ∃ b off, a = some ⟨b, off, none⟩ ∧ wr.cell? ⟨b, off + j, none⟩ = some (.int .u64 (x : Int)) := by
        obtain ⟨b, off, rfl, hc⟩ := Q.out.elem hx
        have h0 := hc 0 (.int .u64 (x : Int)) rfl
        simp only [Elem.u64s, Nat.add_zero, Nat.mul_one] at h0
        have hlt := World.block_lt_of_cell? w _ h0
        have hn := NE.out (by omega) b rfl
        refine ⟨b, off, rfl, (World.cell?_of_block (a := ⟨b, off + j, none⟩) (hw.upd.block b hlt ?_)).trans h0⟩
        rintro (e | ⟨i, e, _⟩)
        · exact hn.1 e
        · exact hn.2 e
      obtain ⟨b, off, rfl, d0⟩ := hcellsAt
      obtain ⟨⟨Lj, hd, n⟩, hS⟩ : ∃ S, (pushN s (l.take j)).1 = S := ⟨_, rfl⟩
      rw [hS] at hr hnext hhalt hjn
      have hhd : hd ≤ 18446744073709551615 := by
        have := pushN_h (l.take j) s hh (fun x hx => HX.out x (List.mem_of_mem_take hx))
        rw [hS] at this; exact this
      simp only [] at hjn
      have c0 : wr.cell? ⟨lp, o, none⟩ = some (.int .u64 (hd : Int)) := hr.lst.c0
      have f0 : wr.frozen? ⟨lp, o, none⟩ = false := hr.lst.frozen _
      have ST := Lib.hid (store8 wr hr.mem x hd hxb hhd)
      have t1 : decide ((j : Int) < (k : Int)) = true := decide_eq_true (by omega)
      have t1' : decide (j < k) = true := decide_eq_true hjk
      have j0 : (0 : Int) ≤ (j : Int) := by omega
      have j1 : (j : Int) < (k : Int) := by omega
      have RR := Lib.hid hr; have WW := Lib.hid hw; have HNX := Lib.hid hnext; have HHL := Lib.hid hhalt
      obtain ⟨hj1, hj2, hj3⟩ := hjn
      have HJ3 := Lib.hid hj3
      clear hr hw hnext hhalt hx hz hS hjl hb2 hj3
      by_cases hx0 : x = 0
      · subst hx0
        have hp : push1 ⟨Lj, hd, n⟩ 0 = (⟨Lj, hd, n⟩, 2) := by unfold push1; rw [if_pos rfl]
        have hE : E = (⟨Lj, hd, n⟩, 2) := by rw [← HE.out, HHL.out (by rw [hp]; show (2 : Int) ≠ 0; decide), hp]
        subst hE
        have t2 : (((0 : Nat) : Int) == 0) = true := by decide
        clear hp ST
        go_wp2
        go_ret
        exact ⟨rfl, RR.out, WW.out⟩
      · have t2 : ((x : Int) == 0) = false := by rw [beq_eq_false_iff_ne]; omega
        by_cases h8 : x + 8 ≤ Lj.length
        · rw [if_pos h8, if_pos h8] at ST
          have hp : push1 ⟨Lj, hd, n⟩ x = (⟨MemMath.put8 Lj x hd, x, n + 1⟩, 0) := by unfold push1; rw [if_neg hx0, if_pos h8]
          rw [hp] at HNX
          clear hp hx0 h8
          go_wp2_with fail
          refine ST.out.mono ?_; rintro e w6 ⟨rfl, hr6, hu6⟩
          have R6 := Lib.hid hr6
          have l6 := RR.out.lst.upd hu6 RR.out.ng
          have W6 := Lib.hid (WW.out.upd' hu6 (fun _ h => h))
          have L6 := Lib.hid l6
          clear c0 f0
          have c0 : w6.cell? ⟨lp, o, none⟩ = some (.int .u64 (hd : Int)) := l6.c0
          have f0 : w6.frozen? ⟨lp, o, none⟩ = false := l6.frozen _
          have c1 : w6.cell? ⟨lp, o + 1, none⟩ = some (.int .i64 n) := l6.c1
          have f1 : w6.frozen? ⟨lp, o + 1, none⟩ = false := l6.frozen _
          clear hr6 hu6 l6
          go_wp2
          go_roundw
          case rel =>
            refine ⟨j + 1, by omega, by go_num, by rw [HNX.out], ?_, (W6.out.setCell ⟨rfl, Or.inl rfl⟩ _).setCell ⟨rfl, Or.inr rfl⟩ _⟩
            rw [HNX.out]
            have hl := (L6.out.head x).count (n + 1)
            refine ⟨(R6.out.upd ((Upd.refl (fun b => b = lp) w6).setCell (.inl rfl) _) (fun e => RR.out.np e.symm) (fun e => RR.out.ng e.symm)).upd ((Upd.refl (fun b => b = lp) _).setCell (.inl rfl) _) (fun e => RR.out.np e.symm) (fun e => RR.out.ng e.symm), hl, RR.out.np, RR.out.ng⟩
          case measure => simp [intOf]; omega
        · rw [if_neg h8, if_neg h8] at ST
          have hp : push1 ⟨Lj, hd, n⟩ x = (⟨Lj, hd, n⟩, 3) := by unfold push1; rw [if_neg hx0, if_neg h8]
          have hE : E = (⟨Lj, hd, n⟩, 3) := by rw [← HE.out, HHL.out (by rw [hp]; show (3 : Int) ≠ 0; decide), hp]
          subst hE
          clear hp hx0 h8
          go_wp2_with fail
          refine ST.out.mono ?_; rintro e w6 ⟨rfl, hr6, hu6⟩
          have R6 := Lib.hid hr6
          have L6 := Lib.hid (RR.out.lst.upd hu6 RR.out.ng)
          have W6 := Lib.hid (WW.out.upd' hu6 (fun _ h => h))
          clear hr6 hu6
          go_wp2
          go_ret
          exact ⟨rfl, ⟨R6.out, L6.out, RR.out.np, RR.out.ng⟩, W6.out⟩
    · obtain rfl : j = k := by omega
      have t1 : decide ((j : Int) < (j : Int)) = false := decide_eq_false (by omega)
      have htk : l.take j = l := by rw [HK.out, List.take_length]
      rw [htk, HE.out] at hz hr
      have RR := Lib.hid hr; have WW := Lib.hid hw
      have HZ := Lib.hid hz
      clear hr hw htk hz
      go_wp2
      go_ret
      rw [HZ.out]
      exact ⟨rfl, RR.out, WW.out⟩
set_option maxHeartbeats 1000000 in
theorem pop_any (w : World) {p g lp o : Nat} {s : LS} (R : PL w p g lp o s) (hh : s.h ≤ 18446744073709551615) (hn : 0 ≤ s.n ∧ s.n ≤ 1000000000) :
    Calls Try.prog 13 #[.pointer (some ⟨lp, o, none⟩), .pointer (some ⟨p, 0, none⟩)] w fun e w' => e = .returned (.tuple #[.int .u64 ((popN s).2.1 : Int), .int .i64 (popN s).2.2]) ∧ PL w' p g lp o (popN s).1 ∧ Wrt (fun _ => False) (LPl lp o) w w' := by
  obtain ⟨L, hd, n⟩ := s
  simp only [] at hh hn
  obtain ⟨n0, n1⟩ := hn
  have c0 : w.cell? ⟨lp, o, none⟩ = some (.int .u64 (hd : Int)) := R.lst.c0
  have f0 : w.frozen? ⟨lp, o, none⟩ = false := R.lst.frozen _
  have c1 : w.cell? ⟨lp, o + 1, none⟩ = some (.int .i64 n) := R.lst.c1
  have f1 : w.frozen? ⟨lp, o + 1, none⟩ = false := R.lst.frozen _
  have HL := load8' R.mem hd
  have RR := Lib.hid R
  simp only [] at HL
  clear R
  by_cases hz : n = 0
  · subst hz
    have e : popN ⟨L, hd, 0⟩ = (⟨L, hd, 0⟩, 0, 5) := by unfold popN; rw [if_pos rfl]
    rw [e]
    clear e HL
    go_enter Try.func13, Try.ntmps13
    go_wp2
    go_ret2
    exact ⟨rfl, RR.out, Wrt.refl _ _ _⟩
  · have t1 : ((n : Int) == 0) = false := by rw [beq_eq_false_iff_ne]; exact hz
    by_cases h8 : hd + 8 ≤ L.length
    · have e : popN ⟨L, hd, n⟩ = (⟨L, linkAt L hd, n - 1⟩, hd, 0) := by unfold popN; rw [if_neg hz, if_pos h8]
      rw [e]
      have HC := Lib.hid (HL.1 h8)
      obtain ⟨k, hk⟩ : ∃ k, linkAt L hd = k := ⟨_, rfl⟩
      rw [hk] at HC ⊢
      clear e HL h8 hk hz
      go_enter Try.func13, Try.ntmps13
      go_wp2_with (go_at_call 30; refine HC.out.mono ?_; rintro e w1 ⟨rfl, rfl⟩)
      go_ret2
      have hl := (RR.out.lst.head k).count (n - 1)
      exact ⟨rfl, ⟨(RR.out.mem.upd ((Upd.refl (fun b => b = lp) w).setCell (.inl rfl) _) (fun e => RR.out.np e.symm) (fun e => RR.out.ng e.symm)).upd ((Upd.refl (fun b => b = lp) _).setCell (.inl rfl) _) (fun e => RR.out.np e.symm) (fun e => RR.out.ng e.symm), hl, RR.out.np, RR.out.ng⟩, ((Wrt.refl _ _ w).setCell ⟨rfl, Or.inl rfl⟩ _).setCell ⟨rfl, Or.inr rfl⟩ _⟩
    · have e : popN ⟨L, hd, n⟩ = (⟨L, hd, n⟩, 0, 3) := by unfold popN; rw [if_neg hz, if_neg h8]
      rw [e]
      have HC := Lib.hid (HL.2 h8)
      clear e HL h8 hz
      go_enter Try.func13, Try.ntmps13
      go_wp2_with (go_at_call 30; refine HC.out.mono ?_; rintro e w1 ⟨rfl, rfl⟩)
      go_ret2
      exact ⟨rfl, RR.out, Wrt.refl _ _ _⟩
end Go.Proofs.Ytmnnmgphiiedgaa
