/- The law MarkLongest, walked. -/
import Derived.Test.YtfmbfonnabebmaaMarksRel
namespace Go.Proofs.Ytfmbfonnabebmaa.markLongest
open Go.RowKit
set_option linter.unusedVariables false

set_option maxRecDepth 100000 in
set_option maxHeartbeats 1000000 in
theorem walk_short (w : World) (A : Option Addr) (n cap : Nat) (l : List (Int × Int × Int)) (h : IsTrips w (.slice A n cap) l) (hs : l.length ≤ 100) :
    Calls Try.prog 7 #[.slice A n cap] w fun e w' => e = .returned (.bool true) ∧ Below w.heap.size w w' := by
  obtain rfl := h.1.len
  have HT := Lib.hid h
  have hs' : decide ((100 : Int) < (l.length : Int)) = false := decide_eq_false (by omega)
  clear h
  go_enter Try.func7, Try.ntmps7
  go_wp2_with fail
  refine (alive_any _).mono ?_; rintro e w1 ⟨rfl, hb⟩
  have B1 := Lib.hid hb
  have s1 := B1.out.size
  clear hb
  go_wp2_with fail
  refine (new_ok 64 (by decide) (by decide) _).mono ?_; rintro e w2 ⟨p, g, rfl, hm, hp, hg, hu⟩
  have B2 := Lib.hid (B1.out.trans (below_false hu s1)); have M2 := Lib.hid hm
  have hp' : w.heap.size ≤ p := Nat.le_trans s1 hp
  have hg' : w.heap.size ≤ g := Nat.le_trans s1 hg
  have s2 := B2.out.size
  clear hu hm hp hg
  go_wp2_with fail
  go_loopw [30] (fun i wr => Marking w p g l.length i wr) (fun i _ => l.length - (intOf i).toNat)
  case atStart => exact ⟨0, Nat.zero_le _, rfl, ⟨_, M2.out, MarkMath.length_rep _ _⟩, B2.out⟩
  case round =>
    obtain ⟨k, hk, rfl, ⟨L, hm, hL⟩, hb⟩ := hrel
    have M := Lib.hid hm; have HL := Lib.hid hL; have B := Lib.hid hb
    clear hm hL hb
    have sr := B.out.size
    by_cases hlt : k < l.length
    · have hI := HT.out.getD hlt
      obtain ⟨b, off, rfl, c1, c2, c3⟩ := (HT.out.1.below (Nat.le_refl _) B.out).elem hlt
      obtain ⟨⟨x, y, z⟩, ht⟩ : ∃ t, l.getD k (0, 0, 0) = t := ⟨_, rfl⟩
      rw [ht] at c1 c2 c3 hI
      obtain ⟨wx, wy, wz⟩ := hI
      clear ht
      have HM := Lib.hid (mark_any ((M.out.alloc (.cells #[.int .i64 x, .int .i64 y, .int .i64 z] 32))) y z wy.wf wz.wf)
      clear wx wy wz
      go_wp2_with fail
      refine HM.out.mono ?_; rintro e w3 ⟨rfl, hm, hu⟩
      have B3 := Lib.hid ((B.out.alloc sr _).trans (below_one hu (Nat.le_trans sr (by simp)) hg')); have M3 := Lib.hid hm
      clear hu hm HM
      go_wp2
      go_roundw
      case rel => exact ⟨k + 1, by omega, by go_num, ⟨_, M3.out, by rw [turnL_len]; exact HL.out⟩, B3.out⟩
      case measure => simp [intOf]; omega
    · obtain rfl : k = l.length := by omega
      clear hlt hk
      -- what is longest, and what is left
      have hN := MarkMath.longest_le L
      rw [HL.out] at hN
      have h0 : MarkMath.longest L = 0 → MarkMath.left L = 0 := fun h => by
        refine Classical.byContradiction fun h1 => ?_
        have : false ∈ L := List.count_pos_iff.1 (Nat.pos_of_ne_zero h1)
        obtain ⟨j, hj, e⟩ := List.mem_iff_getElem.1 this
        have hf : MarkMath.allAt L j 1 false := fun i hi => by
          obtain rfl : i = 0 := by omega
          simp [List.getD_eq_getElem?_getD, hj, e]
        have := MarkMath.longest_ge (Nat.le_refl _) hf
        omega
      have hfull : MarkMath.low L (MarkMath.longest L + 1) = none := by
        have := MarkMath.low_longest L (MarkMath.longest L + 1) (by omega)
        rw [decide_eq_false (by omega)] at this
        cases hx : MarkMath.low L (MarkMath.longest L + 1) with
        | none => rfl
        | some a => rw [hx] at this; cases this
      obtain ⟨N, hNN⟩ : ∃ N, MarkMath.longest L = N := ⟨_, rfl⟩
      have hlong := longest_any M.out
      rw [hNN] at hN h0 hfull hlong
      have HLong := Lib.hid hlong; have H0 := Lib.hid h0; have HF := Lib.hid hfull; have HN := Lib.hid hNN
      clear hlong h0 hfull hNN
      have first : N < 64 → ∀ w3, IsMarks w3 p 0 g L → Calls Try.prog 17 #[.pointer (some ⟨p, 0, none⟩), .int .i64 ((N : Int) + 1)] w3 (Wrote w3 p 0 g L (.tuple #[.int .i64 0, .int .i64 4])) := by
        intro h w3 hm
        have ht := take_any hm ((N : Int) + 1)
        obtain ⟨e1, e2, e3⟩ := take_full (L := L) (k := N + 1) (by omega) (by rw [HL.out]; omega) HF.out
        rw [show ((N : Int) + 1) = ((N + 1 : Nat) : Int) by omega, e1, e2, e3, show ((N + 1 : Nat) : Int) = ((N : Int) + 1) by omega] at ht
        exact ht
      have FIRST := Lib.hid first; clear first HF
      by_cases hz : N = 0
      · have t0 : ((N : Int) == 0) = true := by rw [beq_iff_eq]; omega
        have hlt' : (N : Int) < 64 := by omega
        have hlt : N < 64 := by omega
        have HZ := Lib.hid (H0.out hz)
        clear hz
        go_wp2_with (go_at_call 21; refine HLong.out.mono ?_; rintro e w3 ⟨rfl, hb⟩; have B3 := Lib.hid (B.out.trans (hb.mono sr)); have M3 := Lib.hid (M.out.grew hb); have s3 := B3.out.size; clear hb)
        refine (FIRST.out hlt w3 M3.out).mono ?_; rintro e w4 ⟨rfl, hm, hu⟩
        have B5 := Lib.hid (B3.out.trans (below_one hu s3 hg')); have M5 := Lib.hid hm
        have s5 := B5.out.size
        clear hu hm
        go_wp2_with fail
        have hl := left_any M5.out
        rw [HZ.out] at hl
        refine hl.mono ?_; rintro e w5 ⟨rfl, hb⟩
        have B6 := Lib.hid (B5.out.trans (hb.mono s5))
        clear hl hb
        go_wp2
        go_ret
        exact ⟨rfl, B6.out⟩
      · have t0 : ((N : Int) == 0) = false := by rw [beq_eq_false_iff_ne]; omega
        have hz' : 1 ≤ N := by omega
        clear hz
        -- the row that is taken
        obtain ⟨a, hlow⟩ := MarkMath.longest_row hz' (Nat.le_of_eq HN.out.symm)
        have hal := hlow.1.le hz'
        obtain ⟨e1, e2, e3⟩ := take_yes (L := L) (k := N) hz' (by omega) (MarkMath.low_of hz' hlow)
        have hleft := MarkMath.left_setAt hal hlow.1
        have hlong2 : MarkMath.longest (MarkMath.setAt L a N true) ≤ N := by
          refine Nat.le_of_not_lt fun h => ?_
          obtain ⟨b, hb⟩ := MarkMath.longest_row (k := N + 1) (by omega) h
          have := MarkMath.longest_ge (by omega) (MarkMath.allAt_of_setAt hal hb.1)
          rw [HN.out] at this; omega
        have second : ∀ w3, IsMarks w3 p 0 g L → Calls Try.prog 17 #[.pointer (some ⟨p, 0, none⟩), .int .i64 (N : Int)] w3 (Wrote w3 p 0 g (MarkMath.setAt L a N true) (.tuple #[.int .i64 (a : Int), .int .i64 0])) := by
          intro w3 hm
          have ht := take_any hm (N : Int)
          rw [e1, e2, e3] at ht
          exact ht
        obtain ⟨L2, hL2⟩ : ∃ L2, MarkMath.setAt L a N true = L2 := ⟨_, rfl⟩
        rw [hL2] at hleft hlong2 second
        obtain ⟨x, hx⟩ : ∃ x, MarkMath.left L2 = x := ⟨_, rfl⟩
        obtain ⟨y, hy⟩ : ∃ y, MarkMath.left L = y := ⟨_, rfl⟩
        obtain ⟨z, hzz⟩ : ∃ z, MarkMath.longest L2 = z := ⟨_, rfl⟩
        rw [hx, hy] at hleft
        rw [hzz] at hlong2
        have hyb : y ≤ 64 := by have := MarkMath.left_le L; rw [HL.out] at this; omega
        have tx : ((x : Int) == (y : Int) - (N : Int)) = true := by rw [beq_iff_eq]; omega
        have SECOND := Lib.hid second; have HX := Lib.hid hx; have HY := Lib.hid hy; have HZ := Lib.hid hzz
        clear second hx hy hzz hleft e1 e2 e3 hlow hal hL2
        by_cases hlt : N < 64
        · have hlt' : (N : Int) < 64 := by omega
          go_wp2_with (go_at_call 21; refine HLong.out.mono ?_; rintro e w3 ⟨rfl, hb⟩; have B3 := Lib.hid (B.out.trans (hb.mono sr)); have M3 := Lib.hid (M.out.grew hb); have s3 := B3.out.size; clear hb)
          refine (FIRST.out hlt w3 M3.out).mono ?_; rintro e w4 ⟨rfl, hm, hu⟩
          have B5 := Lib.hid (B3.out.trans (below_one hu s3 hg')); have M5 := Lib.hid hm
          have s5 := B5.out.size
          clear hu hm
          go_wp2_with fail
          refine (left_any M5.out).mono ?_; rw [HY.out]; rintro e w6 ⟨rfl, hb⟩
          have B6 := Lib.hid (B5.out.trans (hb.mono s5)); have M6 := Lib.hid (M5.out.grew hb)
          have s6 := B6.out.size
          clear hb
          go_wp2_with fail
          refine (SECOND.out w6 M6.out).mono ?_; rintro e w7 ⟨rfl, hm, hu⟩
          have B7 := Lib.hid (B6.out.trans (below_one hu s6 hg')); have M7 := Lib.hid hm
          have s7 := B7.out.size
          clear hu hm
          go_wp2_with fail
          refine (left_any M7.out).mono ?_; rw [HX.out]; rintro e w8 ⟨rfl, hb⟩
          have B8 := Lib.hid (B7.out.trans (hb.mono s7)); have M8 := Lib.hid (M7.out.grew hb)
          have s8 := B8.out.size
          clear hb
          go_wp2_with fail
          refine (longest_any M8.out).mono ?_; rw [HZ.out]; rintro e w9 ⟨rfl, hb⟩
          have B9 := Lib.hid (B8.out.trans (hb.mono s8))
          clear hb
          go_wp2
          go_ret
          exact ⟨rfl, B9.out⟩
        · have hlt' : 64 ≤ (N : Int) := by omega
          go_wp2_with (go_at_call 21; refine HLong.out.mono ?_; rintro e w3 ⟨rfl, hb⟩; have B5 := Lib.hid (B.out.trans (hb.mono sr)); have M5 := Lib.hid (M.out.grew hb); have s5 := B5.out.size; clear hb)
          refine (left_any M5.out).mono ?_; rw [HY.out]; rintro e w6 ⟨rfl, hb⟩
          have B6 := Lib.hid (B5.out.trans (hb.mono s5)); have M6 := Lib.hid (M5.out.grew hb)
          have s6 := B6.out.size
          clear hb
          go_wp2_with fail
          refine (SECOND.out w6 M6.out).mono ?_; rintro e w7 ⟨rfl, hm, hu⟩
          have B7 := Lib.hid (B6.out.trans (below_one hu s6 hg')); have M7 := Lib.hid hm
          have s7 := B7.out.size
          clear hu hm
          go_wp2_with fail
          refine (left_any M7.out).mono ?_; rw [HX.out]; rintro e w8 ⟨rfl, hb⟩
          have B8 := Lib.hid (B7.out.trans (hb.mono s7)); have M8 := Lib.hid (M7.out.grew hb)
          have s8 := B8.out.size
          clear hb
          go_wp2_with fail
          refine (longest_any M8.out).mono ?_; rw [HZ.out]; rintro e w9 ⟨rfl, hb⟩
          have B9 := Lib.hid (B8.out.trans (hb.mono s8))
          clear hb
          go_wp2
          go_ret
          exact ⟨rfl, B9.out⟩

theorem walk_long (w : World) (A : Option Addr) (n cap : Nat) (l : List (Int × Int × Int)) (h : IsTrips w (.slice A n cap) l) (hs : 100 < l.length) :
    Calls Try.prog 7 #[.slice A n cap] w fun e w' => e = .returned (.bool true) ∧ Below w.heap.size w w' := by
  obtain rfl := h.1.len
  have hs' : decide ((100 : Int) < (l.length : Int)) = true := decide_eq_true (by omega)
  clear h
  go_enter Try.func7, Try.ntmps7
  go_wp2_with fail
  refine (alive_any _).mono ?_; rintro e w1 ⟨rfl, hb⟩
  have B1 := Lib.hid hb
  have s1 := B1.out.size
  clear hb
  go_wp2_with fail
  refine (new_ok 64 (by decide) (by decide) _).mono ?_; rintro e w2 ⟨p, g, rfl, hm, hp, hg, hu⟩
  have B2 := Lib.hid (B1.out.trans (below_false hu s1))
  clear hu hm hp hg
  go_wp2
  go_ret
  exact ⟨rfl, B2.out⟩

theorem walk (w : World) {a : Option Addr} {n cap : Nat} (l : List (Int × Int × Int)) (h : IsTrips w (.slice a n cap) l) :
    Calls Try.prog 7 #[.slice a n cap] w fun e w' => e = .returned (.bool true) ∧ Below w.heap.size w w' := by
  by_cases hs : l.length ≤ 100
  · exact walk_short w a n cap l h hs
  · exact walk_long w a n cap l h (by omega)
end Go.Proofs.Ytfmbfonnabebmaa.markLongest
