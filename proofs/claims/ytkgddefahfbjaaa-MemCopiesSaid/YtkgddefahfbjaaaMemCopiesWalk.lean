/- The law MemCopies, walked. -/
import Derived.Test.YtkgddefahfbjaaaMemCasWalk
import Derived.Test.YtkgddefahfbjaaaIsB8
import Derived.Deep.RegionLaw
import Derived.IntWalk
namespace Go.Proofs.Ytkgddefahfbjaaa.memCopies
open Go.RowKit
set_option linter.unusedVariables false

/-- The memory's first 600 bytes behind the copy are those of the plain row behind its own. -/
theorem copies {L0 A : List Nat} {t f n z : Nat} (h0 : L0.length = 1024) (hA : A.length = 600) (ht : t + n ≤ 600) (hf : f + n ≤ 600) :
    (splice L0 0 A).length = 1024 ∧ (splice (splice L0 0 A) t (MemMath.part (splice L0 0 A) f n)).length = 1024 ∧
    MemMath.part (splice (splice L0 0 A) t (MemMath.part (splice L0 0 A) f n)) 0 600 = splice A t (MemMath.part A f n) ∧
    splice (A ++ List.replicate z 0) t (MemMath.part A f n) = splice A t (MemMath.part A f n) ++ List.replicate z 0 ∧ (splice A t (MemMath.part A f n)).length = 600 := by
  have l1 : (splice L0 0 A).length = 1024 := by rw [MemMath.length_splice' (by omega), h0]
  have p1 : MemMath.part (splice L0 0 A) f n = MemMath.part A f n := by rw [MemMath.part_splice_in (by omega) (by omega) (by omega), Nat.sub_zero]
  have lp := MemMath.length_part (L := A) (o := f) (n := n) (by omega)
  rw [p1]
  have l2 : (splice (splice L0 0 A) t (MemMath.part A f n)).length = 1024 := by rw [MemMath.length_splice' (by omega), l1]
  have l3 : (splice A t (MemMath.part A f n)).length = 600 := by rw [MemMath.length_splice' (by omega), hA]
  refine ⟨l1, l2, ?_, ?_, l3⟩
  · apply MemMath.ext_getD
    · rw [MemMath.length_part (by omega), l3]
    · intro i hi
      rw [MemMath.length_part (by omega)] at hi
      rw [MemMath.getD_part hi, Nat.zero_add, MemMath.getD_splice (by omega), MemMath.getD_splice (by omega), MemMath.getD_splice (by omega)]
      by_cases c : t ≤ i ∧ i < t + (MemMath.part A f n).length
      · rw [if_pos c, if_pos c]
      · rw [if_neg c, if_neg c, if_pos (by omega), Nat.sub_zero]
  · unfold splice
    rw [List.take_append_of_le_length (by omega), List.drop_append_of_le_length (by omega)]
    simp

set_option maxRecDepth 100000 in
set_option maxHeartbeats 1600000 in
theorem walk_short (w : World) (a : Option Addr) (cap : Nat) (l : List Nat) (hlm : l.length ≤ 9223372036854775807) (hR : Reads8 w (.slice a l.length cap) l) (hB : MemMath.Byt l) (t f n : Nat) (h1 : t ≤ 255) (h2 : f ≤ 255) (h3 : n ≤ 255) :
    Calls Try.prog 5 #[.agg #[.slice a l.length cap, .int .u8 (t : Int), .int .u8 (f : Int), .int .u8 (n : Int)]] w fun e w' => e = .returned (.bool true) ∧ Below w.heap.size w w' := by
  obtain ⟨i0, hi, hz0, hz1, hz2⟩ := info_parts info8
  have lr : (MemMath.rep 1024 0).length = 1024 := MemMath.length_rep _ _
  obtain ⟨L0, hL0⟩ : ∃ L, MemMath.rep 1024 0 = L := ⟨_, rfl⟩
  rw [hL0] at lr
  have l6 : (MemMath.rep 600 0).length = 600 := MemMath.length_rep _ _
  have b6 : MemMath.Byt (MemMath.rep 600 0) := MemMath.byt_rep (by decide)
  obtain ⟨Z, hZ⟩ : ∃ L, MemMath.rep 600 0 = L := ⟨_, rfl⟩
  rw [hZ] at l6 b6
  obtain ⟨m, hm⟩ : ∃ m, min l.length 600 = m := ⟨_, rfl⟩
  have hmb : m ≤ 600 := by omega
  have lA : (splice Z 0 (l.take m)).length = 600 := by rw [MemMath.length_splice' (by simp; omega), l6]
  have bA : MemMath.Byt (splice Z 0 (l.take m)) := b6.splice (hB.take _) _
  obtain ⟨A, hA⟩ : ∃ L, splice Z 0 (l.take m) = L := ⟨_, rfl⟩
  rw [hA] at lA bA
  have key := fun z => copies (z := z) lr lA (show t + n ≤ 600 by omega) (show f + n ≤ 600 by omega)
  obtain ⟨l1, l2, kp, _, l3⟩ := key 0
  have kw := fun z => (key z).2.2.2.1
  have bG : MemMath.Byt (splice A t (MemMath.part A f n)) := bA.splice (bA.part _ _) _
  obtain ⟨G, hG⟩ : ∃ L, splice A t (MemMath.part A f n) = L := ⟨_, rfl⟩
  rw [hG] at kp l3 bG
  simp only [hG] at kw
  have H0 := Lib.hid hL0; have LR := Lib.hid lr; have HZ := Lib.hid hZ; have L6 := Lib.hid l6; have HM := Lib.hid hm.symm; have HA := Lib.hid hA; have LA := Lib.hid lA; have BA := Lib.hid bA
  have LL1 := Lib.hid l1; have LL2 := Lib.hid l2; have KP := Lib.hid kp; have KW := Lib.hid kw; have LG := Lib.hid l3; have BG := Lib.hid bG; have PL := Lib.hid (MemMath.length_part (L := A) (o := f) (n := n) (by omega))
  have HR : Hid (∀ w', Below w.heap.size w w' → Reads8 w' (.slice a l.length cap) l) := Lib.hid fun w' hb => hR.below (Nat.le_refl _) hb
  clear hL0 lr hZ l6 hm b6 lA bA hA l1 l2 kp kw l3 bG hG key hR hB
  go_enter Try.func5, Try.ntmps5
  go_wp2_with fail
  refine (alive_any _).mono ?_; rintro e w1 ⟨rfl, hb⟩
  have K1 := Blk.below (Blk.new w _ _) hb (by simp)
  have B1 := Lib.hid (((Below.refl _ w).alloc (Nat.le_refl _) _).trans (hb.mono (by simp)))
  have s1 := B1.out.size
  have c0 : w1.cell? ⟨w.heap.size, 0, none⟩ = some (.slice a l.length cap) := K1.cell 0
  have c1 : w1.cell? ⟨w.heap.size, 1, none⟩ = some (.int .u8 (t : Int)) := K1.cell 1
  have c2 : w1.cell? ⟨w.heap.size, 2, none⟩ = some (.int .u8 (f : Int)) := K1.cell 2
  have c3 : w1.cell? ⟨w.heap.size, 3, none⟩ = some (.int .u8 (n : Int)) := K1.cell 3
  clear K1 hb
  go_wp2_with fail
  go_quiet (fail)
  clear c0 c1 c2 c3
  go_wp2_with fail
  refine (new_ok 1024 (by decide) (by decide) (by decide) _).mono ?_; rintro e w2 ⟨p, g, rfl, hm, hp, hg, hu⟩
  have B2 := Lib.hid ((below_drewN B1.out nq).trans (below_false hu s1))
  rw [H0.out] at hm
  have M2 := Lib.hid hm
  have s2 := B2.out.size
  have hg' : w.heap.size ≤ g := Nat.le_trans s1 hg
  clear hu hm hp hg
  go_wp2_with (first
    | (at_make
       refine wpList_make_bytes rfl _ _ 36 rfl 5 i0 Try.underlying36 hi hz0 hz1 hz2 _ _ _ 600 rfl rfl rfl ?_ ?_
       decide
       intro w3 hr hu hsz
       rw [HZ.out] at hr
       have B3 := Lib.hid (B2.out.trans (below_false hu s2)); have M3 := Lib.hid (M2.out.upd hu id id); have R3 := Lib.hid hr
       have s3 := B3.out.size
       have g2 : Hid (g < w2.heap.size) := Lib.hid M2.out.row.lt
       clear hr hu hsz)
    | (refine wpList_copy_bytes rfl (.tmp 28) (.tmp 29) 36 36 rfl 5 Try.underlying36 info8s _ _ _ _ _ _ rfl rfl l Z w2.heap.size 0 R3.out (HR.out _ B3.out) m HM.out (fun _ => rfl) (by rw [L6.out]; decide) ?_
       intro w4 hr hu))
  rw [HA.out] at hr
  have B4 := Lib.hid (B3.out.trans (below_one hu s3 s2)); have M4 := Lib.hid (M3.out.upd hu (fun e => by have := g2.out; have := M2.out.head.lt; omega) (fun e => by have := g2.out; omega)); have R4 := Lib.hid hr
  have s4 := B4.out.size
  clear hr hu
  have gne : Hid (w2.heap.size ≠ g) := Lib.hid (by have := g2.out; omega)
  obtain ⟨ga, hga⟩ : ∃ ga, w2.heap.size = ga := ⟨_, rfl⟩
  rw [hga] at R4 gne ⊢
  have sga : w.heap.size ≤ ga := by rw [← hga]; exact s2
  clear hga
  have RA : Hid (∀ w', Bytes w' 5 ga A → Reads8 w' (.slice (some ⟨ga, 0, none⟩) 600 600) A) := Lib.hid fun w' h => by have := h.all 600; rwa [LA.out] at this
  have hput := put_ok M4.out 0 (some ⟨ga, 0, none⟩) 600 A (by rw [LA.out]; exact RA.out _ R4.out) BA.out (by rw [LA.out, LR.out]; decide)
  rw [LA.out] at hput
  have HP := Lib.hid hput
  clear hput
  refine HP.out.mono ?_; rintro e w5 ⟨rfl, hm, hu⟩
  have B5 := Lib.hid (B4.out.trans (below_one hu s4 hg')); have M5 := Lib.hid hm; have R5 := Lib.hid (R4.out.upd hu gne.out)
  have s5 := B5.out.size
  clear hm hu
  go_wp2_with fail
  refine (copy_ok M5.out t f n (by rw [LL1.out]; omega) (by rw [LL1.out]; omega)).mono ?_; rintro e w6 ⟨rfl, hm, hu⟩
  have B6 := Lib.hid (B5.out.trans (below_one hu s5 hg')); have M6 := Lib.hid hm; have R6 := Lib.hid (R5.out.upd hu gne.out)
  have s6 := B6.out.size
  clear hm hu
  go_wp2_with fail
  refine (get_ok M6.out 0 600 (by rw [LL2.out]; decide)).mono ?_
  rw [KP.out]
  rintro e w7 ⟨b2, z2, rfl, hr, hb2, hu⟩
  rw [LG.out]
  have B7 := Lib.hid (B6.out.trans (below_false hu s6)); have R7 := Lib.hid (R6.out.upd hu id); have G7 := Lib.hid hr
  have s7 := B7.out.size
  have sz7 := hu.size
  have l7 : Hid (ga < w7.heap.size) := Lib.hid R7.out.lt
  clear hr hu
  go_wp2_with (at_builtin; refine wpList_append_fresh rfl _ _ 36 rfl 5 i0 Try.underlying36 hi hz0 hz1 hz2 w7.heap.size _ A rfl rfl (Blk.new w7 _ _) (RA.out _ (R7.out.alloc _)) ?_ ?_; (rw [LA.out]; decide); intro b3 z3 w8 hr hb3 hu; rw [LA.out])
  have hbw : w7.heap.size ≤ b3 := by rcases hb3 with rfl | hb; exact Nat.le_refl _; simp at hb; omega
  have U8 : Upd (fun _ => False) w7 w8 := ((Upd.refl _ w7).alloc _).trans hu
  have B8 := Lib.hid (B7.out.trans (below_false U8 s7)); have R8 := Lib.hid (R7.out.upd U8 id); have G8 := Lib.hid (G7.out.upd U8 id); have W8' := Lib.hid hr
  have s8 := B8.out.size
  have n1 : Hid (ga ≠ b3) := Lib.hid (by have := l7.out; omega)
  have n2 : Hid (b2 ≠ b3) := Lib.hid (by have := G7.out.lt; omega)
  have sb3 : w.heap.size ≤ b3 := Nat.le_trans s7 hbw
  clear hr hu U8 hb3
  obtain ⟨p1, hp1, hs1⟩ := run_slice_lower (P := Try.prog) 36 Try.underlying36 size8 .u8 b3 0 600 (600 + z3) t (by omega) (by omega)
  obtain rfl := hp1 (by omega)
  obtain ⟨p2, hp2, hs2⟩ := run_slice_both (P := Try.prog) 36 Try.underlying36 size8 .i64 .i64 ga 0 600 600 f (f + n) (by omega) (by omega)
  rw [show ((f + n : Nat) : Int) = (f : Int) + (n : Int) by omega, show f + n - f = n by omega] at hs2
  rw [Nat.zero_add] at hs1
  have RS := Lib.hid (R8.out.readsIf f p2 n (600 - f) (by rw [LA.out]; omega) (fun h => by rw [hp2 (by omega), Nat.zero_add]))
  have LF : Hid (t + (600 - t) ≤ (A ++ List.replicate z3 0).length) := Lib.hid (by rw [List.length_append, LA.out]; omega)
  have MN : Hid (n = min (MemMath.part A f n).length (600 - t)) := Lib.hid (by rw [PL.out]; omega)
  clear hp1 hp2
  have hw1 : IntKind.i64.wrap (f : Int) = (f : Int) := IntWalk.i64_in _ (by omega)
  have hw2 : IntKind.i64.wrap (n : Int) = (n : Int) := IntWalk.i64_in _ (by clear hw1; omega)
  have hwr : IntKind.i64.wrap ((f : Int) + (n : Int)) = (f : Int) + (n : Int) := IntWalk.i64_in _ (by clear hw1 hw2; omega)
  go_region_law (refine step_copy_bytes rfl (.tmp 60) (.tmp 69) 36 36 rfl 5 Try.underlying36 info8s (some ⟨b3, t, none⟩) (600 - t) (600 + z3 - t) (some ⟨ga, p2, none⟩) n (600 - f) ?_ ?_ (MemMath.part A f n) (A ++ List.replicate z3 0) b3 t W8'.out.drew RS.out.drew n MN.out (fun _ => rfl) LF.out ?_; go_simp; go_simp; intro w9 hr hu)
  all_goals
    rw [List.take_of_length_le (by rw [PL.out]; exact Nat.le_refl _), KW.out] at hr
    have B9 := Lib.hid (B8.out.drew.trans (below_one hu (show w.heap.size ≤ w8.drew.heap.size from s8) sb3)); have G9 := Lib.hid (G8.out.drew.upd hu n2.out); have W9 := Lib.hid hr
    have X9 : Hid (Reads8 w9 (.slice (some ⟨b2, 0, none⟩) 600 (600 + z2)) G) := Lib.hid (by have := Bytes.front G9.out (600 + z2); rwa [LG.out] at this)
    have Y9 : Hid (Reads8 w9 (.slice (some ⟨b3, 0, none⟩) 600 (600 + z3)) G) := Lib.hid (by have := Bytes.front W9.out (600 + z3); rwa [LG.out] at this)
    clear hr hu hwr hw1 hw2 hs1 hs2
    go_wp2_with fail
    refine (same_any _ _ _ _ _ _ _ G G X9.out Y9.out BG.out BG.out).mono ?_; rintro e w' ⟨rfl, rfl⟩
    go_wp2
    go_ret
    exact ⟨ret_bool (by simp), B9.out⟩

theorem walk (w : World) {a : Option Addr} {m cap : Nat} (l : List Nat) (h : IsB8 w (.slice a m cap) l) (x : Int) (hx : (Lit.int .u8 x).wf = true) (y : Int) (hy : (Lit.int .u8 y).wf = true) (z : Int) (hz : (Lit.int .u8 z).wf = true) :
    Calls Try.prog 5 #[.agg #[.slice a m cap, .int .u8 x, .int .u8 y, .int .u8 z]] w fun e w' => e = .returned (.bool true) ∧ Below w.heap.size w w' := by
  obtain ⟨hr, hb, hl, hc⟩ := h
  obtain rfl := hr.len
  have d1 := u8_bounds hx; have d2 := u8_bounds hy; have d3 := u8_bounds hz
  obtain ⟨x, rfl⟩ := Int.eq_ofNat_of_zero_le d1.1
  obtain ⟨y, rfl⟩ := Int.eq_ofNat_of_zero_le d2.1
  obtain ⟨z, rfl⟩ := Int.eq_ofNat_of_zero_le d3.1
  exact walk_short w a cap l hl hr hb x y z (by omega) (by omega) (by omega)
end Go.Proofs.Ytkgddefahfbjaaa.memCopies
