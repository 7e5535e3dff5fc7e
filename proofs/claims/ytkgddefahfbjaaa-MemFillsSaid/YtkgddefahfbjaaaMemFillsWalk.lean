/- The law MemFills, walked. -/
import Derived.Test.YtkgddefahfbjaaaMemCasWalk
import Derived.Test.YtkgddefahfbjaaaIsB8
namespace Go.Proofs.Ytkgddefahfbjaaa.memFills
open Go.RowKit
set_option linter.unusedVariables false

theorem getD_front {l m : List Nat} {i : Nat} (h : i < l.length) : (l ++ m).getD i 0 = l.getD i 0 := by
  simp only [List.getD_eq_getElem?_getD]
  rw [List.getElem?_append_left h]
/-- What stands at a place behind both fills. -/
theorem stands {L0 l : List Nat} {at_ n : Nat} (h0 : L0.length = 1024) (h : at_ + n ≤ 1024) :
    (splice (splice L0 0 (MemMath.fill 1024 [3])) at_ (MemMath.fill n l)).length = 1024 ∧ (splice L0 0 (MemMath.fill 1024 [3])).length = 1024 ∧
    ∀ i, i < 1024 → (splice (splice L0 0 (MemMath.fill 1024 [3])) at_ (MemMath.fill n l)).getD i 0 = if at_ ≤ i ∧ i < at_ + n then l.getD ((i - at_) % l.length) 0 else 3 := by
  have l1 : (splice L0 0 (MemMath.fill 1024 [3])).length = 1024 := by rw [MemMath.length_splice' (by rw [MemMath.length_fill]; omega), h0]
  refine ⟨by rw [MemMath.length_splice' (by rw [MemMath.length_fill]; omega), l1], l1, fun i hi => ?_⟩
  rw [MemMath.getD_splice (by rw [MemMath.length_fill]; omega), MemMath.length_fill]
  by_cases c : at_ ≤ i ∧ i < at_ + n
  · rw [if_pos c, if_pos c, MemMath.getD_fill _ (by omega)]
  · rw [if_neg c, if_neg c, MemMath.getD_splice (by rw [MemMath.length_fill]; omega), MemMath.length_fill, if_pos (by omega), MemMath.fill_one, MemMath.getD_rep (by omega)]

set_option maxRecDepth 100000 in
theorem walk_out (w : World) (a : Option Addr) (m cap : Nat) (hl : 500 < m) (hm : m ≤ 9223372036854775807) (A B : Int) :
    Calls Try.prog 7 #[.slice a m cap, .int .u8 A, .int .u8 B] w fun e w' => e = .returned (.bool true) ∧ Below w.heap.size w w' := by
  go_enter Try.func7, Try.ntmps7
  go_wp2_with (go_at_call 9; refine (alive_any _).mono ?_; rintro e w1 ⟨rfl, hb⟩)
  go_ret
  exact ⟨rfl, hb⟩

def LoopRel (i : Value) : Prop := ∃ k : Nat, k ≤ 1024 ∧ i = .int .i64 (k : Int)

set_option maxRecDepth 100000 in
set_option maxHeartbeats 800000 in
theorem walk_short (w : World) (a : Option Addr) (cap : Nat) (l : List Nat) (hl : l.length ≤ 500) (hR : Reads8 w (.slice a l.length cap) l) (hB : MemMath.Byt l) (at_ n : Nat) (h1 : at_ ≤ 255) (h2 : n ≤ 255) :
    Calls Try.prog 7 #[.slice a l.length cap, .int .u8 (at_ : Int), .int .u8 (n : Int)] w fun e w' => e = .returned (.bool true) ∧ Below w.heap.size w w' := by
  obtain ⟨i0, hi, hz0, hz1, hz2⟩ := info_parts info8
  have lr : (MemMath.rep 1024 0).length = 1024 := MemMath.length_rep _ _
  obtain ⟨L0, hL0⟩ : ∃ L, MemMath.rep 1024 0 = L := ⟨_, rfl⟩
  rw [hL0] at lr
  obtain ⟨l2, l1, hst⟩ := stands (l := l) lr (show at_ + n ≤ 1024 by omega)
  obtain ⟨L1, hL1⟩ : ∃ L, splice L0 0 (MemMath.fill 1024 [3]) = L := ⟨_, rfl⟩
  rw [hL1] at l1 l2 hst
  obtain ⟨L2, hL2⟩ : ∃ L, splice L1 at_ (MemMath.fill n l) = L := ⟨_, rfl⟩
  rw [hL2] at l2 hst
  have H0 := Lib.hid hL0; have LR := Lib.hid lr; have H1 := Lib.hid hL1; have H2 := Lib.hid hL2; have LL1 := Lib.hid l1; have LL2 := Lib.hid l2; have ST := Lib.hid hst
  have HR := Lib.hid hR; have HB := Lib.hid hB
  have HA : Hid (∀ w', Below w.heap.size w w' → Reads8 w' (.slice a l.length cap) l) := Lib.hid fun w' hb => hR.below (Nat.le_refl _) hb
  clear hL0 lr hL1 l1 hL2 l2 hst hR hB
  go_enter Try.func7, Try.ntmps7
  go_wp2_with fail
  refine (alive_any _).mono ?_; rintro e w1 ⟨rfl, hb⟩
  have B1 := Lib.hid hb
  have s1 := B1.out.size
  clear hb
  go_wp2_with fail
  refine (new_ok 1024 (by decide) (by decide) (by decide) _).mono ?_; rintro e w2 ⟨p, g, rfl, hm, hp, hg, hu⟩
  have B2 := Lib.hid (B1.out.trans (below_false hu s1))
  rw [H0.out] at hm
  have M2 := Lib.hid hm
  have s2 := B2.out.size
  have hg' : w.heap.size ≤ g := Nat.le_trans s1 hg
  clear hu hm hp hg
  go_wp2_with (at_builtin; refine wpList_append_fresh rfl _ _ 36 rfl 5 i0 Try.underlying36 hi hz0 hz1 hz2 w2.heap.size _ l rfl rfl (Blk.new w2 _ _) (HA.out _ (B2.out.alloc s2 _)) ?_ ?_; omega; intro b z w3 hr hb hu)
  have hbw : w2.heap.size ≤ b := by rcases hb with rfl | hb; exact Nat.le_refl _; simp at hb; omega
  have U3 : Upd (fun _ => False) w2 w3 := ((Upd.refl _ w2).alloc _).trans hu
  have B3 := Lib.hid (B2.out.trans (below_false U3 s2)); have M3 := Lib.hid (M2.out.upd U3 id id); have R3 := Lib.hid hr
  have s3 := B3.out.size
  have hbg : Hid (b ≠ g) := Lib.hid (by have := M2.out.row.lt; omega)
  clear U3 hr hu hb
  refine (fill_some (M3.out.alloc _) 0 1024 _ _ [3] ((Bytes.new w3 5 [3]).all 1) (.of (by decide)) (by decide) (by decide) (by rw [LR.out]; decide)).mono ?_; rintro e w4 ⟨rfl, hm, hu⟩
  have B4 := Lib.hid ((B3.out.alloc s3 _).trans (below_one hu (Nat.le_trans s3 (by simp)) hg'))
  rw [H1.out] at hm
  have M4 := Lib.hid hm
  have R4 := Lib.hid ((R3.out.alloc _).upd hu hbg.out)
  have s4 := B4.out.size
  clear hu hm
  go_wp2_with fail
  refine (fill_any M4.out at_ n _ _ l (Bytes.front R4.out _) HB.out (by omega) (by rw [LL1.out]; omega)).mono ?_; rintro e w5 ⟨rfl, hm, hu⟩
  have B5 := Lib.hid (B4.out.trans (below_one hu s4 hg'))
  rw [H2.out] at hm
  have M5 := Lib.hid hm
  have R5 := Lib.hid (R4.out.upd hu hbg.out)
  have s5 := B5.out.size
  clear hu hm
  go_wp2_with fail
  refine (get_ok M5.out 0 1024 (by rw [LL2.out]; decide)).mono ?_
  rw [show MemMath.part L2 0 1024 = L2 by rw [← LL2.out]; exact MemMath.part_all L2]
  rintro e w6 ⟨b2, z2, rfl, hr, hb2, hu⟩
  have B6 := Lib.hid (B5.out.trans (below_false hu s5))
  have R6 := Lib.hid (R5.out.upd hu id)
  have RC := Lib.hid hr
  rw [LL2.out]
  clear hu hr
  go_wp2
  go_loop [53] (fun i => LoopRel i) (fun i => 1024 - (intOf i).toNat)
  case atStart => exact ⟨0, by decide, rfl⟩
  case round =>
    obtain ⟨i, hi, rfl⟩ := hrel
    by_cases hlt : i < 1024
    · have hc := RC.out.cell i (by rw [List.length_append, LL2.out]; omega)
      have hv := ST.out i hlt
      rw [getD_front (by rw [LL2.out]; exact hlt), hv] at hc
      clear hv
      by_cases c1 : i < at_
      · rw [if_neg (by omega)] at hc
        go_wp2
        exact ⟨⟨i + 1, by omega, by go_num⟩, by simp [intOf]; omega⟩
      · obtain ⟨k, hk⟩ : ∃ k, i - at_ = k := ⟨_, rfl⟩
        have es : (i : Int) - (at_ : Int) = (k : Int) := by omega
        rw [hk] at hc
        by_cases c2 : k < n
        · rw [if_pos (by omega)] at hc
          clear hk c1
          by_cases c3 : l.length = 0
          · have e0 : l = [] := List.length_eq_zero_iff.1 c3
            subst e0
            go_wp2
            exact ⟨⟨i + 1, by omega, by go_num⟩, by simp [intOf]; omega⟩
          · obtain ⟨bb, off, rfl, hcells⟩ := (HA.out _ B6.out).cells (by omega)
            have hcell := hcells (k % l.length) (Nat.mod_lt _ (by omega))
            have c4 : 0 < l.length := by omega
            have c5 : k % l.length < l.length := Nat.mod_lt _ c4
            have c6 : 0 ≤ (k : Int) % (l.length : Int) := by omega
            have c7 : (k : Int) % (l.length : Int) < (l.length : Int) := by omega
            clear c3 hcells
            go_wp2
            exact ⟨⟨i + 1, by omega, by go_num⟩, by simp [intOf]; omega⟩
        · rw [if_neg (by omega)] at hc
          clear hk c1
          go_wp2
          exact ⟨⟨i + 1, by omega, by go_num⟩, by simp [intOf]; omega⟩
    · obtain rfl : i = 1024 := by omega
      go_wp2_with fail
      refine (same_any _ _ _ _ _ _ _ l l (Bytes.front R6.out _) (HA.out _ B6.out) HB.out HB.out).mono ?_; rintro e w' ⟨rfl, rfl⟩
      go_wp2
      go_ret
      exact ⟨ret_bool (by simp), B6.out⟩

theorem walk (w : World) {a : Option Addr} {n cap : Nat} (l : List Nat) (h : IsB8 w (.slice a n cap) l) (x : Int) (hx : (Lit.int .u8 x).wf = true) (y : Int) (hy : (Lit.int .u8 y).wf = true) :
    Calls Try.prog 7 #[.slice a n cap, .int .u8 x, .int .u8 y] w fun e w' => e = .returned (.bool true) ∧ Below w.heap.size w w' := by
  obtain ⟨hr, hb, hl, hc⟩ := h
  obtain rfl := hr.len
  by_cases hlen : l.length ≤ 500
  · have d1 := u8_bounds hx; have d2 := u8_bounds hy
    obtain ⟨x, rfl⟩ := Int.eq_ofNat_of_zero_le d1.1
    obtain ⟨y, rfl⟩ := Int.eq_ofNat_of_zero_le d2.1
    exact walk_short w a cap l hlen hr hb x y (by omega) (by omega)
  · exact walk_out w a _ cap (by omega) hl x y
end Go.Proofs.Ytkgddefahfbjaaa.memFills
