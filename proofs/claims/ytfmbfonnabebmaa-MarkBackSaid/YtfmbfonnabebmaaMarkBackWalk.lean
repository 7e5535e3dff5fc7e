/- The law MarkBack, walked. -/
import Derived.Test.YtfmbfonnabebmaaMarksRel
namespace Go.Proofs.Ytfmbfonnabebmaa
open Go.RowKit
theorem Blk.below {w w' : World} {B g : Nat} {t : TypeId} {cs : Array Value} (h : Blk w g t cs) (hb : Below B w w') (hg : g < B) : Blk w' g t cs := (hb.block g hg).trans h
end Go.Proofs.Ytfmbfonnabebmaa
namespace Go.Proofs.Ytfmbfonnabebmaa.markBack
open Go.RowKit
set_option linter.unusedVariables false

theorem u8_bd {n : Int} (h : (Lit.int .u8 n).wf = true) : 0 ≤ n ∧ n ≤ 255 := by
  simp [Lit.wf, IntKind.min, IntKind.max, IntKind.signed, IntKind.bits] at h; omega

set_option maxRecDepth 100000 in
set_option maxHeartbeats 2000000 in
theorem walk_short (w : World) (A : Option Addr) (n cap : Nat) (l : List (Int × Int × Int)) (h : IsTrips w (.slice A n cap) l) (pa pr pc : Nat) (ha : pa ≤ 255) (hr : pr ≤ 255) (hc : pc ≤ 255) (hs : l.length ≤ 100)
    (a k0 c : Nat) (xa : (pa : Int) % 64 = (a : Int)) (xk : (pr : Int) % 8 = (k0 : Int)) (xc : (pc : Int) % ((k0 : Int) + 1) = (c : Int)) (ha' : a ≤ 63) (hk0 : k0 ≤ 7) (hck : c ≤ k0) :
    Calls Try.prog 6 #[.agg #[.slice A n cap, .int .u8 (pa : Int), .int .u8 (pr : Int), .int .u8 (pc : Int)]] w fun e w' => e = .returned (.bool true) ∧ Below w.heap.size w w' := by
  obtain rfl := h.1.len
  have HT := Lib.hid h
  have hs' : decide ((100 : Int) < (l.length : Int)) = false := decide_eq_false (by omega)
  have XA := Lib.hid xa; have XK := Lib.hid xk; have XC := Lib.hid xc
  clear h xa xk xc
  go_enter Try.func6, Try.ntmps6
  go_wp2_with fail
  refine (alive_any _).mono ?_; rintro e w1 ⟨rfl, hb⟩
  have K1 := Blk.below (Blk.new w _ _) hb (by simp)
  have B1 := Lib.hid (((Below.refl _ w).alloc (Nat.le_refl _) _).trans (hb.mono (by simp)))
  have s1 := B1.out.size
  have d0 : w1.cell? ⟨w.heap.size, 0, none⟩ = some (.slice A l.length cap) := K1.cell 0
  have d1 : w1.cell? ⟨w.heap.size, 1, none⟩ = some (.int .u8 (pa : Int)) := K1.cell 1
  have d2 : w1.cell? ⟨w.heap.size, 2, none⟩ = some (.int .u8 (pr : Int)) := K1.cell 2
  have d3 : w1.cell? ⟨w.heap.size, 3, none⟩ = some (.int .u8 (pc : Int)) := K1.cell 3
  clear K1 hb
  go_wp2_with fail
  go_quiet (fail)
  clear d0 d1 d2 d3
  have B1' := Lib.hid (below_drewN B1.out nq)
  have s1' : w.heap.size ≤ (w1.drewN nq).heap.size := s1
  go_wp2_with fail
  refine (new_ok 64 (by decide) (by decide) _).mono ?_; rintro e w2 ⟨p, g, rfl, hm, hp, hg, hu⟩
  have B2 := Lib.hid (B1'.out.trans (below_false hu s1')); have M2 := Lib.hid hm
  have hp' : w.heap.size ≤ p := Nat.le_trans s1' hp
  have hg' : w.heap.size ≤ g := Nat.le_trans s1' hg
  have s2 := B2.out.size
  clear hu hm hp hg
  go_wp2_with fail
  clear hs'
  go_loopw [42] (fun i wr => Marking w p g l.length i wr) (fun i _ => l.length - (intOf i).toNat)
  case atStart => exact ⟨0, Nat.zero_le _, rfl, ⟨_, M2.out, MarkMath.length_rep _ _⟩, B2.out⟩
  case round =>
    obtain ⟨k, hk, rfl, ⟨L, hm, hL⟩, hb⟩ := hrel
    have M := Lib.hid hm; have HL := Lib.hid hL; have B := Lib.hid hb
    clear hm hL hb
    have sr := B.out.size
    by_cases hlt : k < l.length
    · have hI := HT.out.getD hlt
      obtain ⟨b, off, rfl, c1, c2, c3⟩ := (HT.out.1.below (Nat.le_refl _) B.out).elem hlt
      obtain ⟨⟨x, y, z⟩, ht⟩ : ∃ t, l.getD k (0, 0, 0) = t := ⟨_, rfl⟩
      rw [ht] at c1 c2 c3 hI
      obtain ⟨wx, wy, wz⟩ := hI
      clear ht
      have HM := Lib.hid (mark_any ((M.out.alloc (.cells #[.int .i64 x, .int .i64 y, .int .i64 z] 32))) y z wy.wf wz.wf)
      clear wx wy wz
      go_wp2_with fail
      refine HM.out.mono ?_; rintro e w3 ⟨rfl, hm, hu⟩
      have B3 := Lib.hid ((B.out.alloc sr _).trans (below_one hu (Nat.le_trans sr (by simp)) hg')); have M3 := Lib.hid hm
      clear hu hm HM
      go_wp2
      go_roundw
      case rel => exact ⟨k + 1, by omega, by go_num, ⟨_, M3.out, by rw [turnL_len]; exact HL.out⟩, B3.out⟩
      case measure => simp [intOf]; omega
    · obtain rfl : k = l.length := by omega
      clear hlt hk
      obtain ⟨left, hleft⟩ : ∃ x, MarkMath.left L = x := ⟨_, rfl⟩
      obtain ⟨longest, hlongest⟩ : ∃ x, MarkMath.longest L = x := ⟨_, rfl⟩
      have hl64 : left ≤ 64 := by have := MarkMath.left_le L; rw [HL.out, hleft] at this; exact this
      have Leq := Lib.hid hleft; have Geq := Lib.hid hlongest
      clear hleft hlongest
      have leftL : ∀ w', IsMarks w' p 0 g L → Calls Try.prog 19 #[.pointer (some ⟨p, 0, none⟩)] w' fun e W' => e = .returned (.int .i64 (left : Int)) ∧ Below w'.heap.size w' W' := fun w' h => by
        have := left_any h; rw [Leq.out] at this; exact this
      have longL : ∀ w', IsMarks w' p 0 g L → Calls Try.prog 21 #[.pointer (some ⟨p, 0, none⟩)] w' fun e W' => e = .returned (.int .i64 (longest : Int)) ∧ Below w'.heap.size w' W' := fun w' h => by
        have := longest_any h; rw [Geq.out] at this; exact this
      have LEFT := Lib.hid leftL; have LONG := Lib.hid longL
      clear leftL longL
      have tl : ((left : Int) == (left : Int)) = true := by simp
      have tg : ((longest : Int) == (longest : Int)) = true := by simp
      go_wp2_with fail
      refine (LEFT.out _ M.out).mono ?_; rintro e w3 ⟨rfl, hb⟩
      have B3 := Lib.hid (B.out.trans (hb.mono sr)); have M3 := Lib.hid (M.out.grew hb)
      have s3 := B3.out.size
      clear hb
      go_wp2_with fail
      refine (LONG.out _ M3.out).mono ?_; rintro e w4 ⟨rfl, hb⟩
      have B4 := Lib.hid (B3.out.trans (hb.mono s3)); have M4 := Lib.hid (M3.out.grew hb)
      have s4 := B4.out.size
      clear hb
      have xa := XA.out; have xk := XK.out
      have hk1 : ((k0 : Int) + 1) = ((k0 + 1 : Nat) : Int) := by omega
      by_cases hin : a + (k0 + 1) ≤ 64
      · have hin' : a + (k0 + 1) ≤ L.length := by rw [HL.out]; exact hin
        by_cases hfree : MarkMath.allAt L a (k0 + 1) (!true)
        · -- marked
          have hm1 := mark_any M4.out (a : Int) ((k0 : Int) + 1) (wf_small a (by omega)) (by rw [hk1]; exact wf_small _ (by omega))
          rw [hk1, turnE_yes (by omega) hfree, turnL_yes (by omega) hfree, ← hk1] at hm1
          have hleft2 := MarkMath.left_setAt hin' hfree
          have hlen2 := MarkMath.length_setAt true hin'
          have hall2 : MarkMath.allAt (MarkMath.setAt L a (k0 + 1) true) a (k0 + 1) true := MarkMath.allAt_setAt true hin'
          have hback : MarkMath.setAt (MarkMath.setAt (MarkMath.setAt L a (k0 + 1) true) a c false) (a + c) (k0 + 1 - c) false = L := by
            rw [MarkMath.setAt_parts false (by omega) (by rw [hlen2]; exact hin')]
            exact MarkMath.setAt_back hin' (fun j hj => hfree.at (by omega) (by omega) _)
          obtain ⟨L2, hL2⟩ : ∃ L2, MarkMath.setAt L a (k0 + 1) true = L2 := ⟨_, rfl⟩
          rw [hL2] at hm1 hleft2 hlen2 hall2 hback
          rw [Leq.out] at hleft2
          obtain ⟨left2, hl2⟩ : ∃ x, MarkMath.left L2 = x := ⟨_, rfl⟩
          have hll := fun w' (h : IsMarks w' p 0 g L2) => left_any h
          rw [hl2] at hleft2 hll
          have t2 : ((left2 : Int) == (left : Int) - ((k0 : Int) + 1)) = true := by rw [beq_iff_eq]; omega
          have t2' : ((left2 : Int) != (left : Int) - ((k0 : Int) + 1)) = false := by rw [bne, t2]; rfl
          have hrest : MarkMath.allAt (MarkMath.setAt L2 a c false) (a + c) (k0 + 1 - c) (!false) := fun j hj => by
            rw [MarkMath.getD_setAt _ (by rw [hlen2]; omega), if_neg (by omega)]
            exact hall2.at (by omega) (by omega) _
          have hno : ¬ MarkMath.allAt L a (k0 + 1) (!false) := fun h => by
            have h1 := h.at (i := a) (Nat.le_refl _) (by omega) false
            have h2 := hfree.at (i := a) (Nat.le_refl _) (by omega) false
            rw [h1] at h2; cases h2
          have first : 0 < c → ∀ w', IsMarks w' p 0 g L2 → Calls Try.prog 15 #[.pointer (some ⟨p, 0, none⟩), .int .i64 (a : Int), .int .i64 (c : Int)] w' (Wrote w' p 0 g (MarkMath.setAt L2 a c false) (.int .i64 0)) := by
            intro h0 w' h
            have := free_any h (a : Int) (c : Int) (wf_small a (by omega)) (wf_small c (by omega))
            have hf : MarkMath.allAt L2 a c (!false) := hall2.sub (Nat.le_refl _) (by omega)
            rw [turnE_yes (by omega) hf, turnL_yes (by omega) hf] at this
            exact this
          have second : ∀ w', IsMarks w' p 0 g (MarkMath.setAt L2 a c false) → Calls Try.prog 15 #[.pointer (some ⟨p, 0, none⟩), .int .i64 ((a : Int) + (c : Int)), .int .i64 ((k0 : Int) + 1 - (c : Int))] w' (Wrote w' p 0 g L (.int .i64 0)) := by
            intro w' h
            have e1 : (a : Int) + (c : Int) = ((a + c : Nat) : Int) := by omega
            have e2 : (k0 : Int) + 1 - (c : Int) = ((k0 + 1 - c : Nat) : Int) := by omega
            have := free_any h ((a + c : Nat) : Int) ((k0 + 1 - c : Nat) : Int) (wf_small _ (by omega)) (wf_small _ (by omega))
            rw [turnE_yes (by omega) hrest, turnL_yes (by omega) hrest, hback] at this
            rw [e1, e2]
            exact this
          have third : ∀ w', IsMarks w' p 0 g L → Calls Try.prog 15 #[.pointer (some ⟨p, 0, none⟩), .int .i64 (a : Int), .int .i64 ((k0 : Int) + 1)] w' (Wrote w' p 0 g L (.int .i64 5)) := by
            intro w' h
            have := free_any h (a : Int) ((k0 + 1 : Nat) : Int) (wf_small _ (by omega)) (wf_small _ (by omega))
            rw [turnE_no (by omega) hin' hno, turnL_no hno] at this
            rw [hk1]
            exact this
          have zero : c = 0 → MarkMath.setAt L2 a c false = L2 := fun h => by rw [h]; exact MarkMath.setAt_none _ _ _
          have HM1 := Lib.hid hm1; have LL := Lib.hid hll; have F1 := Lib.hid first; have F2 := Lib.hid second; have F3 := Lib.hid third; have Z := Lib.hid zero
          clear hm1 hll first second third zero hleft2 hlen2 hall2 hback hL2 hl2 hrest hno hfree hin' hk1
          go_wp2_with fail
          refine HM1.out.mono ?_; rintro e w5 ⟨rfl, hm, hu⟩
          have B5 := Lib.hid (B4.out.trans (below_one hu s4 hg')); have M5 := Lib.hid hm
          have s5 := B5.out.size
          clear hu hm HM1
          have xc := XC.out
          go_wp2_with fail
          refine (LL.out _ M5.out).mono ?_; rintro e w6 ⟨rfl, hb⟩
          have B6 := Lib.hid (B5.out.trans (hb.mono s5)); have M6 := Lib.hid (M5.out.grew hb)
          have s6 := B6.out.size
          clear hb
          by_cases h0 : 0 < c
          · have g0 : decide ((0 : Int) < (c : Int)) = true := decide_eq_true (by omega)
            go_wp2_with fail
            refine (F1.out h0 _ M6.out).mono ?_; rintro e w7 ⟨rfl, hm, hu⟩
            have B7 := Lib.hid (B6.out.trans (below_one hu s6 hg')); have M7 := Lib.hid hm
            have s7 := B7.out.size
            clear hu hm
            go_wp2_with fail
            refine (F2.out _ M7.out).mono ?_; rintro e w8 ⟨rfl, hm, hu⟩
            have B8 := Lib.hid (B7.out.trans (below_one hu s7 hg')); have M8 := Lib.hid hm
            have s8 := B8.out.size
            clear hu hm
            go_wp2_with fail
            refine (LEFT.out _ M8.out).mono ?_; rintro e w9 ⟨rfl, hb⟩
            have B9 := Lib.hid (B8.out.trans (hb.mono s8)); have M9 := Lib.hid (M8.out.grew hb)
            have s9 := B9.out.size
            clear hb
            go_wp2_with fail
            refine (LONG.out _ M9.out).mono ?_; rintro e wa ⟨rfl, hb⟩
            have Ba := Lib.hid (B9.out.trans (hb.mono s9)); have Ma := Lib.hid (M9.out.grew hb)
            have sa := Ba.out.size
            clear hb
            go_wp2_with fail
            refine (F3.out _ Ma.out).mono ?_; rintro e wb ⟨rfl, hm, hu⟩
            have Bb := Lib.hid (Ba.out.trans (below_one hu sa hg'))
            clear hu hm
            go_wp2
            go_ret
            exact ⟨rfl, Bb.out⟩
          · have g0 : decide (0 < c) = false := decide_eq_false h0
            have g0' : decide ((0 : Int) < (c : Int)) = false := decide_eq_false (by omega)
            have M7 : Hid (IsMarks w6 p 0 g (MarkMath.setAt L2 a c false)) := Lib.hid (by rw [Z.out (by omega)]; exact M6.out)
            clear h0
            go_wp2_with fail
            refine (F2.out _ M7.out).mono ?_; rintro e w8 ⟨rfl, hm, hu⟩
            have B8 := Lib.hid (B6.out.trans (below_one hu s6 hg')); have M8 := Lib.hid hm
            have s8 := B8.out.size
            clear hu hm
            go_wp2_with fail
            refine (LEFT.out _ M8.out).mono ?_; rintro e w9 ⟨rfl, hb⟩
            have B9 := Lib.hid (B8.out.trans (hb.mono s8)); have M9 := Lib.hid (M8.out.grew hb)
            have s9 := B9.out.size
            clear hb
            go_wp2_with fail
            refine (LONG.out _ M9.out).mono ?_; rintro e wa ⟨rfl, hb⟩
            have Ba := Lib.hid (B9.out.trans (hb.mono s9)); have Ma := Lib.hid (M9.out.grew hb)
            have sa := Ba.out.size
            clear hb
            go_wp2_with fail
            refine (F3.out _ Ma.out).mono ?_; rintro e wb ⟨rfl, hm, hu⟩
            have Bb := Lib.hid (Ba.out.trans (below_one hu sa hg'))
            clear hu hm
            go_wp2
            go_ret
            exact ⟨rfl, Bb.out⟩
        · -- one is taken
          have hm1 := mark_any M4.out (a : Int) ((k0 : Int) + 1) (wf_small a (by omega)) (by rw [hk1]; exact wf_small _ (by omega))
          rw [hk1, turnE_no (by omega) hin' hfree, turnL_no hfree, ← hk1] at hm1
          have HM1 := Lib.hid hm1
          have g1 : decide ((64 : Int) < (a : Int) + ((k0 : Int) + 1)) = false := decide_eq_false (by omega)
          clear hm1 hfree hin' hk1
          go_wp2_with fail
          refine HM1.out.mono ?_; rintro e w5 ⟨rfl, hm, hu⟩
          have B5 := Lib.hid (B4.out.trans (below_one hu s4 hg')); have M5 := Lib.hid hm
          have s5 := B5.out.size
          clear hu hm HM1
          go_wp2_with fail
          refine (LEFT.out _ M5.out).mono ?_; rintro e w9 ⟨rfl, hb⟩
          have B9 := Lib.hid (B5.out.trans (hb.mono s5)); have M9 := Lib.hid (M5.out.grew hb)
          have s9 := B9.out.size
          clear hb
          go_wp2_with fail
          refine (LONG.out _ M9.out).mono ?_; rintro e wa ⟨rfl, hb⟩
          have Ba := Lib.hid (B9.out.trans (hb.mono s9))
          clear hb
          go_wp2
          go_ret
          exact ⟨rfl, Ba.out⟩
      · -- beyond
        have hm1 := mark_any M4.out (a : Int) ((k0 : Int) + 1) (wf_small a (by omega)) (by rw [hk1]; exact wf_small _ (by omega))
        have hno : ¬ InAt L (a : Int) ((k0 : Int) + 1) := fun h => by have h2 := h.2.2; rw [HL.out] at h2; omega
        rw [turnE_out hno, turnL_out hno] at hm1
        have HM1 := Lib.hid hm1
        have g1 : decide ((64 : Int) < (a : Int) + ((k0 : Int) + 1)) = true := decide_eq_true (by omega)
        clear hm1 hno hk1
        go_wp2_with fail
        refine HM1.out.mono ?_; rintro e w5 ⟨rfl, hm, hu⟩
        have B5 := Lib.hid (B4.out.trans (below_one hu s4 hg')); have M5 := Lib.hid hm
        have s5 := B5.out.size
        clear hu hm HM1
        go_wp2_with fail
        refine (LEFT.out _ M5.out).mono ?_; rintro e w9 ⟨rfl, hb⟩
        have B9 := Lib.hid (B5.out.trans (hb.mono s5)); have M9 := Lib.hid (M5.out.grew hb)
        have s9 := B9.out.size
        clear hb
        go_wp2_with fail
        refine (LONG.out _ M9.out).mono ?_; rintro e wa ⟨rfl, hb⟩
        have Ba := Lib.hid (B9.out.trans (hb.mono s9))
        clear hb
        go_wp2
        go_ret
        exact ⟨rfl, Ba.out⟩

theorem walk_long (w : World) (A : Option Addr) (n cap : Nat) (l : List (Int × Int × Int)) (h : IsTrips w (.slice A n cap) l) (pa pr pc : Nat) (hs : 100 < l.length) :
    Calls Try.prog 6 #[.agg #[.slice A n cap, .int .u8 (pa : Int), .int .u8 (pr : Int), .int .u8 (pc : Int)]] w fun e w' => e = .returned (.bool true) ∧ Below w.heap.size w w' := by
  obtain rfl := h.1.len
  have hs' : decide ((100 : Int) < (l.length : Int)) = true := decide_eq_true (by omega)
  clear h
  go_enter Try.func6, Try.ntmps6
  go_wp2_with fail
  refine (alive_any _).mono ?_; rintro e w1 ⟨rfl, hb⟩
  have K1 := Blk.below (Blk.new w _ _) hb (by simp)
  have B1 := Lib.hid (((Below.refl _ w).alloc (Nat.le_refl _) _).trans (hb.mono (by simp)))
  have s1 := B1.out.size
  have d0 : w1.cell? ⟨w.heap.size, 0, none⟩ = some (.slice A l.length cap) := K1.cell 0
  have d1 : w1.cell? ⟨w.heap.size, 1, none⟩ = some (.int .u8 (pa : Int)) := K1.cell 1
  have d2 : w1.cell? ⟨w.heap.size, 2, none⟩ = some (.int .u8 (pr : Int)) := K1.cell 2
  have d3 : w1.cell? ⟨w.heap.size, 3, none⟩ = some (.int .u8 (pc : Int)) := K1.cell 3
  clear K1 hb
  go_wp2_with fail
  go_quiet (fail)
  clear d0 d1 d2 d3
  have B1' := Lib.hid (below_drewN B1.out nq)
  have s1' : w.heap.size ≤ (w1.drewN nq).heap.size := s1
  go_wp2_with fail
  refine (new_ok 64 (by decide) (by decide) _).mono ?_; rintro e w2 ⟨p, g, rfl, hm, hp, hg, hu⟩
  have B2 := Lib.hid (B1'.out.trans (below_false hu s1'))
  clear hu hm hp hg
  go_wp2
  go_ret
  exact ⟨rfl, B2.out⟩

theorem walk (w : World) {A : Option Addr} {n cap : Nat} (l : List (Int × Int × Int)) (h : IsTrips w (.slice A n cap) l) (pa : Int) (h1 : (Lit.int .u8 pa).wf = true) (pr : Int) (h2 : (Lit.int .u8 pr).wf = true) (pc : Int) (h3 : (Lit.int .u8 pc).wf = true) :
    Calls Try.prog 6 #[.agg #[.slice A n cap, .int .u8 pa, .int .u8 pr, .int .u8 pc]] w fun e w' => e = .returned (.bool true) ∧ Below w.heap.size w w' := by
  have b1 := u8_bd h1
  have b2 := u8_bd h2
  have b3 := u8_bd h3
  obtain ⟨pa, rfl⟩ := Int.eq_ofNat_of_zero_le b1.1
  obtain ⟨pr, rfl⟩ := Int.eq_ofNat_of_zero_le b2.1
  obtain ⟨pc, rfl⟩ := Int.eq_ofNat_of_zero_le b3.1
  by_cases hs : l.length ≤ 100
  · have hm : pc % (pr % 8 + 1) < pr % 8 + 1 := Nat.mod_lt _ (by omega)
    exact walk_short w A n cap l h pa pr pc (by omega) (by omega) (by omega) hs (pa % 64) (pr % 8) (pc % (pr % 8 + 1)) (by omega) (by omega) (by rw [show ((pr % 8 : Nat) : Int) + 1 = ((pr % 8 + 1 : Nat) : Int) by omega]; exact (Int.natCast_emod _ _).symm) (by omega) (by omega) (by omega)
  · exact walk_long w A n cap l h pa pr pc (by omega)
end Go.Proofs.Ytfmbfonnabebmaa.markBack
