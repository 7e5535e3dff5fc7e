/- The law MemEnds, walked. -/
import Derived.Test.YtkgddefahfbjaaaMemCasWalk
namespace Go.Proofs.Ytkgddefahfbjaaa.memEnds
open Go.RowKit
set_option linter.unusedVariables false

theorem getD_front {l m : List Nat} {i : Nat} (h : i < l.length) : (l ++ m).getD i 0 = l.getD i 0 := by
  simp only [List.getD_eq_getElem?_getD]
  rw [List.getElem?_append_left h]
/-- All 7. -/
theorem sevens {L0 : List Nat} (h0 : L0.length = 1024) : (splice L0 0 (MemMath.fill 1024 [7])).length = 1024 ∧ ∀ i, i < 1024 → (splice L0 0 (MemMath.fill 1024 [7])).getD i 0 = 7 := by
  have l1 : (splice L0 0 (MemMath.fill 1024 [7])).length = 1024 := by rw [MemMath.length_splice' (by rw [MemMath.length_fill]; omega), h0]
  refine ⟨l1, fun i hi => ?_⟩
  rw [MemMath.getD_splice (by rw [MemMath.length_fill]; omega), MemMath.length_fill, if_pos (by omega), MemMath.fill_one, MemMath.getD_rep (by omega)]
/-- What lays 7 upon 7 changes nothing. -/
theorem same7 {L cs : List Nat} {o : Nat} (hl : L.length = 1024) (h : ∀ i, i < 1024 → L.getD i 0 = 7) (hc : o + cs.length ≤ 1024) (h7 : ∀ i, i < cs.length → cs.getD i 0 = 7) : splice L o cs = L := by
  apply MemMath.ext_getD (MemMath.length_splice' (by omega))
  intro i hi
  rw [MemMath.length_splice' (by omega)] at hi
  rw [MemMath.getD_splice (by omega)]
  by_cases c : o ≤ i ∧ i < o + cs.length
  · rw [if_pos c, h7 _ (by omega), h _ (by omega)]
  · rw [if_neg c]
theorem zeros {L : List Nat} {o n : Nat} (hl : L.length = 1024) (h : ∀ i, i < 1024 → L.getD i 0 = 7) (hn : o + n ≤ 1024) : (splice L o (MemMath.rep n 0)).length = 1024 ∧ ∀ i, i < 1024 → (splice L o (MemMath.rep n 0)).getD i 0 = if o ≤ i ∧ i < o + n then 0 else 7 := by
  refine ⟨by rw [MemMath.length_splice' (by rw [MemMath.length_rep]; omega), hl], fun i hi => ?_⟩
  rw [MemMath.getD_splice (by rw [MemMath.length_rep]; omega), MemMath.length_rep]
  by_cases c : o ≤ i ∧ i < o + n
  · rw [if_pos c, if_pos c]; exact MemMath.getD_rep (by omega)
  · rw [if_neg c, if_neg c, h _ hi]

def LoopRel (i : Value) : Prop := ∃ k : Nat, k ≤ 1024 ∧ i = .int .i64 (k : Int)

set_option maxRecDepth 100000 in
set_option maxHeartbeats 1600000 in
theorem walk_there (w : World) (back n a : Nat) (h1 : back ≤ 255) (h2 : n ≤ back) (ea : 1024 - back = a) :
    Calls Try.prog 4 #[.int .u8 (back : Int), .int .u8 (n : Int)] w fun e w' => e = .returned (.bool true) ∧ Below w.heap.size w w' := by
  obtain ⟨i0, hi, hz0, hz1, hz2⟩ := info_parts info8
  have ia : (1024 : Int) - (back : Int) = (a : Int) := by omega
  have ba : a + n ≤ 1024 := by omega
  have ba' : 1 ≤ a := by omega
  have hle : decide (n ≤ back) = true := decide_eq_true (by omega)
  have hnn : ((n : Int) == (n : Int)) = true := by simp
  have lr : (MemMath.rep 1024 0).length = 1024 := MemMath.length_rep _ _
  obtain ⟨L0, hL0⟩ : ∃ L, MemMath.rep 1024 0 = L := ⟨_, rfl⟩
  rw [hL0] at lr
  obtain ⟨l1, g1⟩ := sevens lr
  obtain ⟨L1, hL1⟩ : ∃ L, splice L0 0 (MemMath.fill 1024 [7]) = L := ⟨_, rfl⟩
  rw [hL1] at l1 g1
  have q1 : splice L1 0 (MemMath.part L1 a n) = L1 := same7 l1 g1 (by rw [MemMath.length_part (by omega)]; omega) (fun i hi => by rw [MemMath.length_part (by omega)] at hi; rw [MemMath.getD_part hi, g1 _ (by omega)])
  have q2 : splice L1 a (MemMath.fill n [7]) = L1 := same7 l1 g1 (by rw [MemMath.length_fill]; omega) (fun i hi => by rw [MemMath.length_fill] at hi; rw [MemMath.fill_one, MemMath.getD_rep hi])
  obtain ⟨l2, g2⟩ := zeros l1 g1 ba
  obtain ⟨L2, hL2⟩ : ∃ L, splice L1 a (MemMath.rep n 0) = L := ⟨_, rfl⟩
  rw [hL2] at l2 g2
  have H0 := Lib.hid hL0; have LR := Lib.hid lr; have H1 := Lib.hid hL1; have H2 := Lib.hid hL2; have LL1 := Lib.hid l1; have LL2 := Lib.hid l2; have G2 := Lib.hid g2; have Q1 := Lib.hid q1; have Q2 := Lib.hid q2
  clear hL0 lr hL1 l1 g1 hL2 l2 g2 q1 q2 ea
  go_enter Try.func4, Try.ntmps4
  go_wp2_with fail
  refine (alive_any _).mono ?_; rintro e w1 ⟨rfl, hb⟩
  have B1 := Lib.hid hb
  have s1 := B1.out.size
  clear hb
  go_wp2_with fail
  refine (new_ok 1024 (by decide) (by decide) (by decide) _).mono ?_; rintro e w2 ⟨p, g, rfl, hm, hp, hg, hu⟩
  have B2 := Lib.hid (B1.out.trans (below_false hu s1))
  rw [H0.out] at hm
  have M2 := Lib.hid hm
  have s2 := B2.out.size
  have hg' : w.heap.size ≤ g := Nat.le_trans s1 hg
  clear hu hm hp hg
  go_wp2_with fail
  refine (fill_some (M2.out.alloc _) 0 1024 _ _ [7] ((Bytes.new w2 5 [7]).all 1) (.of (by decide)) (by decide) (by decide) (by rw [LR.out]; decide)).mono ?_; rintro e w3 ⟨rfl, hm, hu⟩
  have B3 := Lib.hid ((B2.out.alloc s2 _).trans (below_one hu (Nat.le_trans s2 (by simp)) hg'))
  rw [H1.out] at hm
  have M3 := Lib.hid hm
  have s3 := B3.out.size
  clear hu hm
  go_wp2_with fail
  refine (get_ok M3.out a n (by rw [LL1.out]; exact ba)).mono ?_; rintro e w4 ⟨b, z, rfl, hr, hb2, hu⟩
  rw [MemMath.length_part (by rw [LL1.out]; exact ba)]
  have B4 := Lib.hid (B3.out.trans (below_false hu s3)); have M4 := Lib.hid (M3.out.upd hu id id)
  have s4 := B4.out.size
  clear hu hr
  go_wp2_with fail
  refine (copy_ok M4.out 0 a n (by rw [LL1.out]; omega) (by rw [LL1.out]; exact ba)).mono ?_; rintro e w5 ⟨rfl, hm, hu⟩
  have B5 := Lib.hid (B4.out.trans (below_one hu s4 hg'))
  rw [Q1.out] at hm
  have M5 := Lib.hid hm
  have s5 := B5.out.size
  clear hu hm
  go_wp2_with fail
  refine (fill_some (M5.out.alloc _) a n _ _ [7] ((Bytes.new w5 5 [7]).all 1) (.of (by decide)) (by decide) (by decide) (by rw [LL1.out]; exact ba)).mono ?_; rintro e w6 ⟨rfl, hm, hu⟩
  have B6 := Lib.hid ((B5.out.alloc s5 _).trans (below_one hu (Nat.le_trans s5 (by simp)) hg'))
  rw [Q2.out] at hm
  have M6 := Lib.hid hm
  have s6 := B6.out.size
  clear hu hm
  go_wp2_with (at_make; refine wpList_make_bytes rfl _ _ 36 rfl 5 i0 Try.underlying36 hi hz0 hz1 hz2 _ _ _ n rfl rfl rfl ?_ ?_; omega; intro w7 hr hu hsz)
  have B7 := Lib.hid (B6.out.trans (below_false hu s6)); have M7 := Lib.hid (M6.out.upd hu id id)
  have R7 := Lib.hid hr
  have s7 := B7.out.size
  clear hr hu hsz
  have hput := put_ok M7.out a (some ⟨w6.heap.size, 0, none⟩) n (MemMath.rep n 0) (R7.out.all n) (MemMath.byt_rep (by decide)) (by rw [MemMath.length_rep, LL1.out]; exact ba)
  rw [MemMath.length_rep, H2.out] at hput
  have HP := Lib.hid hput
  clear hput
  refine HP.out.mono ?_; rintro e w8 ⟨rfl, hm, hu⟩
  have B8 := Lib.hid (B7.out.trans (below_one hu s7 hg'))
  have M8 := Lib.hid hm
  have s8 := B8.out.size
  clear hu hm
  go_wp2_with fail
  refine (get_ok M8.out 0 1024 (by rw [LL2.out]; decide)).mono ?_
  rw [show MemMath.part L2 0 1024 = L2 by rw [← LL2.out]; exact MemMath.part_all L2]
  rintro e w9 ⟨b2, z2, rfl, hr, hb2, hu⟩
  have B9 := Lib.hid (B8.out.trans (below_false hu s8)); have M9 := Lib.hid (M8.out.upd hu id id)
  have RC := Lib.hid hr
  have s9 := B9.out.size
  rw [LL2.out]
  clear hu hr
  go_wp2
  go_loop [107] (fun i => LoopRel i) (fun i => 1024 - (intOf i).toNat)
  case atStart => exact ⟨0, by decide, rfl⟩
  case round =>
    obtain ⟨i, hi, rfl⟩ := hrel
    by_cases hlt : i < 1024
    · have hc := RC.out.cell i (by rw [List.length_append, LL2.out]; omega)
      rw [getD_front (by rw [LL2.out]; exact hlt), G2.out i hlt] at hc
      by_cases c1 : i < a
      · rw [if_neg (by omega)] at hc
        have d1 : decide ((a : Int) ≤ (i : Int)) = false := decide_eq_false (by omega)
        go_wp2
        exact ⟨⟨i + 1, by omega, by go_num⟩, by simp [intOf]; omega⟩
      · have d1 : decide ((a : Int) ≤ (i : Int)) = true := decide_eq_true (by omega)
        by_cases c2 : i < a + n
        · rw [if_pos (by omega)] at hc
          have d2 : decide ((i : Int) < (a : Int) + (n : Int)) = true := decide_eq_true (by omega)
          go_wp2
          exact ⟨⟨i + 1, by omega, by go_num⟩, by simp [intOf]; omega⟩
        · rw [if_neg (by omega)] at hc
          have d2 : decide ((i : Int) < (a : Int) + (n : Int)) = false := decide_eq_false (by omega)
          go_wp2
          exact ⟨⟨i + 1, by omega, by go_num⟩, by simp [intOf]; omega⟩
    · obtain rfl : i = 1024 := by omega
      go_wp2_with fail
      refine (load_out M9.out 18446744073709551615 8 W8 (by rw [LL2.out]; decide)).mono ?_; rintro e w' ⟨rfl, rfl⟩
      go_wp2_with fail
      refine (copy_out1 M9.out 18446744073709551615 0 2 (by rw [LL2.out]; decide)).mono ?_; rintro e w' ⟨rfl, rfl⟩
      go_wp2_with fail
      refine (fill_out M9.out 1025 0 _ _ _ (by rw [LL2.out]; decide)).mono ?_; rintro e w' ⟨rfl, rfl⟩
      go_wp2_with fail
      refine (fill_none M9.out 1024 0 _ _ (by rw [LL2.out]; decide)).mono ?_; rintro e w10 ⟨rfl, hm, hu⟩
      have B10 := Lib.hid (B9.out.trans (below_one hu s9 hg'))
      clear hm hu
      go_wp2
      go_ret
      exact ⟨rfl, B10.out⟩

set_option maxRecDepth 100000 in
set_option maxHeartbeats 1600000 in
theorem walk_beyond (w : World) (back n a : Nat) (h1 : back ≤ 255) (h2 : back < n) (h3 : n ≤ 255) (ea : 1024 - back = a) :
    Calls Try.prog 4 #[.int .u8 (back : Int), .int .u8 (n : Int)] w fun e w' => e = .returned (.bool true) ∧ Below w.heap.size w w' := by
  obtain ⟨i0, hi, hz0, hz1, hz2⟩ := info_parts info8
  have ia : (1024 : Int) - (back : Int) = (a : Int) := by omega
  have ba : 1024 < a + n := by omega
  have ba' : a ≤ 1024 := by omega
  have hle : decide (n ≤ back) = false := decide_eq_false (by omega)
  have h0n : ((0 : Int) == (n : Int)) = false := by rw [beq_eq_false_iff_ne]; omega
  have lr : (MemMath.rep 1024 0).length = 1024 := MemMath.length_rep _ _
  obtain ⟨L0, hL0⟩ : ∃ L, MemMath.rep 1024 0 = L := ⟨_, rfl⟩
  rw [hL0] at lr
  obtain ⟨l1, g1⟩ := sevens lr
  obtain ⟨L1, hL1⟩ : ∃ L, splice L0 0 (MemMath.fill 1024 [7]) = L := ⟨_, rfl⟩
  rw [hL1] at l1 g1
  have H0 := Lib.hid hL0; have LR := Lib.hid lr; have H1 := Lib.hid hL1; have LL1 := Lib.hid l1; have G1 := Lib.hid g1
  clear hL0 lr hL1 l1 g1 ea
  go_enter Try.func4, Try.ntmps4
  go_wp2_with fail
  refine (alive_any _).mono ?_; rintro e w1 ⟨rfl, hb⟩
  have B1 := Lib.hid hb
  have s1 := B1.out.size
  clear hb
  go_wp2_with fail
  refine (new_ok 1024 (by decide) (by decide) (by decide) _).mono ?_; rintro e w2 ⟨p, g, rfl, hm, hp, hg, hu⟩
  have B2 := Lib.hid (B1.out.trans (below_false hu s1))
  rw [H0.out] at hm
  have M2 := Lib.hid hm
  have s2 := B2.out.size
  have hg' : w.heap.size ≤ g := Nat.le_trans s1 hg
  clear hu hm hp hg
  go_wp2_with fail
  refine (fill_some (M2.out.alloc _) 0 1024 _ _ [7] ((Bytes.new w2 5 [7]).all 1) (.of (by decide)) (by decide) (by decide) (by rw [LR.out]; decide)).mono ?_; rintro e w3 ⟨rfl, hm, hu⟩
  have B3 := Lib.hid ((B2.out.alloc s2 _).trans (below_one hu (Nat.le_trans s2 (by simp)) hg'))
  rw [H1.out] at hm
  have M3 := Lib.hid hm
  have s3 := B3.out.size
  clear hu hm
  go_wp2_with fail
  refine (get_out M3.out a n (by rw [LL1.out]; exact ba)).mono ?_; rintro e w4 ⟨rfl, rfl⟩
  go_wp2_with fail
  refine (copy_out2 M3.out 0 a n (by rw [LL1.out]; omega) (by rw [LL1.out]; exact ba)).mono ?_; rintro e w5 ⟨rfl, rfl⟩
  go_wp2_with fail
  refine (fill_out (M3.out.alloc _) a n _ _ _ (by rw [LL1.out]; exact ba)).mono ?_; rintro e w6 ⟨rfl, rfl⟩
  go_wp2_with (at_make; refine wpList_make_bytes rfl _ _ 36 rfl 5 i0 Try.underlying36 hi hz0 hz1 hz2 _ _ _ n rfl rfl rfl ?_ ?_; omega; intro w7 hr hu hsz)
  have B7 := Lib.hid ((B3.out.alloc s3 _).trans (below_false hu (Nat.le_trans s3 (by simp)))); have M7 := Lib.hid ((M3.out.alloc _).upd hu id id)
  have s7 := B7.out.size
  clear hr hu hsz
  refine (put_out M7.out a _ n _ (by omega) (by rw [LL1.out]; exact ba)).mono ?_; rintro e w8 ⟨rfl, rfl⟩
  go_wp2_with fail
  refine (get_ok M7.out 0 1024 (by rw [LL1.out]; decide)).mono ?_
  rw [show MemMath.part L1 0 1024 = L1 by rw [← LL1.out]; exact MemMath.part_all L1]
  rintro e w9 ⟨b2, z2, rfl, hr, hb2, hu⟩
  have B9 := Lib.hid (B7.out.trans (below_false hu s7)); have M9 := Lib.hid (M7.out.upd hu id id)
  have RC := Lib.hid hr
  have s9 := B9.out.size
  rw [LL1.out]
  clear hu hr
  go_wp2
  go_loop [107] (fun i => LoopRel i) (fun i => 1024 - (intOf i).toNat)
  case atStart => exact ⟨0, by decide, rfl⟩
  case round =>
    obtain ⟨i, hi, rfl⟩ := hrel
    by_cases hlt : i < 1024
    · have hc := RC.out.cell i (by rw [List.length_append, LL1.out]; omega)
      rw [getD_front (by rw [LL1.out]; exact hlt), G1.out i hlt] at hc
      go_wp2
      exact ⟨⟨i + 1, by omega, by go_num⟩, by simp [intOf]; omega⟩
    · obtain rfl : i = 1024 := by omega
      go_wp2_with fail
      refine (load_out M9.out 18446744073709551615 8 W8 (by rw [LL1.out]; decide)).mono ?_; rintro e w' ⟨rfl, rfl⟩
      go_wp2_with fail
      refine (copy_out1 M9.out 18446744073709551615 0 2 (by rw [LL1.out]; decide)).mono ?_; rintro e w' ⟨rfl, rfl⟩
      go_wp2_with fail
      refine (fill_out M9.out 1025 0 _ _ _ (by rw [LL1.out]; decide)).mono ?_; rintro e w' ⟨rfl, rfl⟩
      go_wp2_with fail
      refine (fill_none M9.out 1024 0 _ _ (by rw [LL1.out]; decide)).mono ?_; rintro e w10 ⟨rfl, hm, hu⟩
      have B10 := Lib.hid (B9.out.trans (below_one hu s9 hg'))
      clear hm hu
      go_wp2
      go_ret
      exact ⟨rfl, B10.out⟩

theorem walk (w : World) (x : Int) (hx : (Lit.int .u8 x).wf = true) (y : Int) (hy : (Lit.int .u8 y).wf = true) :
    Calls Try.prog 4 #[.int .u8 x, .int .u8 y] w fun e w' => e = .returned (.bool true) ∧ Below w.heap.size w w' := by
  have d1 : 0 ≤ x ∧ x ≤ 255 := by simp [Lit.wf, IntKind.min, IntKind.max, IntKind.signed, IntKind.bits] at hx; omega
  have d2 : 0 ≤ y ∧ y ≤ 255 := by simp [Lit.wf, IntKind.min, IntKind.max, IntKind.signed, IntKind.bits] at hy; omega
  obtain ⟨x, rfl⟩ := Int.eq_ofNat_of_zero_le d1.1
  obtain ⟨y, rfl⟩ := Int.eq_ofNat_of_zero_le d2.1
  by_cases h : y ≤ x
  · exact walk_there w x y _ (by omega) h rfl
  · exact walk_beyond w x y _ (by omega) (by omega) (by omega) rfl
end Go.Proofs.Ytkgddefahfbjaaa.memEnds
