/- The law MemWords, walked. -/
import Derived.Test.YtkgddefahfbjaaaMemCasWalk
namespace Go.Proofs.Ytkgddefahfbjaaa.memWords
open Go.RowKit
set_option linter.unusedVariables false

/-- What both words read as. -/
theorem two_words {L : List Nat} {a b x y : Nat} (hL : L.length = 2048) (ha : a + 8 ≤ 2048) (hb : b + 8 ≤ 2048) (hab : a = b ∨ a + 8 ≤ b ∨ b + 8 ≤ a) (hx : x ≤ 18446744073709551615) (hy : y ≤ 18446744073709551615) :
    MemMath.val (MemMath.part (MemMath.put8 (MemMath.put8 L a x) b y) b 8) = y ∧ MemMath.part (MemMath.put8 (MemMath.put8 L a x) b y) b 8 = MemMath.le 8 y ∧ MemMath.val (MemMath.part (MemMath.put8 (MemMath.put8 L a x) b y) a 8) = (if a = b then y else x) ∧ (MemMath.put8 (MemMath.put8 L a x) b y).length = 2048 := by
  have l1 : (MemMath.put8 L a x).length = 2048 := by rw [MemMath.length_put8 (by omega), hL]
  refine ⟨MemMath.val_put8 (by omega) hy, MemMath.part_put8 (by omega), ?_, by rw [MemMath.length_put8 (by omega), l1]⟩
  by_cases h : a = b
  · rw [if_pos h]; subst h; exact MemMath.val_put8 (by omega) hy
  · rw [if_neg h, MemMath.part_put8_out (by omega) (by omega) (by omega)]
    exact MemMath.val_put8 (by omega) hx

theorem le_front (y z k : Nat) (h : k < 8) : (MemMath.le 8 y ++ List.replicate z 0).getD k 0 = y / 256 ^ k % 256 := by
  rw [← MemMath.getD_le 8 k y h]
  simp only [List.getD_eq_getElem?_getD]
  rw [List.getElem?_append_left (by rw [MemMath.length_le]; exact h)]

theorem byte_eq (y k : Nat) : ((y : Int) / 256 ^ k % 256 != (y : Int) / 2 ^ (8 * k) % 256) = false := by
  rw [bne_eq_false_iff_eq, Int.pow_mul]
  rfl

def LoopRel (i : Value) : Prop := ∃ k : Nat, k ≤ 8 ∧ i = .int .i64 (k : Int)

set_option maxHeartbeats 800000 in
theorem walk_short (w : World) (x y : Nat) (at_ ot a b : Nat) (h1 : x ≤ 18446744073709551615) (h2 : y ≤ 18446744073709551615) (h3 : at_ ≤ 255) (h4 : ot ≤ 255) (ea : 8 * (at_ % 128) = a) (eb : 8 * (ot % 128) = b) (q : Bool) (eq : decide (a = b) = q) :
    Calls Try.prog 8 #[.agg #[.int .u64 (x : Int), .int .u64 (y : Int), .int .u8 (at_ : Int), .int .u8 (ot : Int)]] w fun e w' => e = .returned (.bool true) ∧ Below w.heap.size w w' := by
  have ia : (8 : Int) * ((at_ : Int) % 128) = (a : Int) := by omega
  have ib : (8 : Int) * ((ot : Int) % 128) = (b : Int) := by omega
  have ba : a + 8 ≤ 2048 := by omega
  have bb : b + 8 ≤ 2048 := by omega
  have t1 : ((a : Int) == (b : Int)) = q := by rw [← eq, Bool.eq_iff_iff, beq_iff_eq, decide_eq_true_iff]; omega
  have t2 : ((a : Int) != (b : Int)) = !q := by rw [bne, t1]
  have lr : (MemMath.rep 2048 0).length = 2048 := MemMath.length_rep _ _
  obtain ⟨L0, hL0⟩ : ∃ L, MemMath.rep 2048 0 = L := ⟨_, rfl⟩
  rw [hL0] at lr
  obtain ⟨v1, v2, v3, l2⟩ := two_words lr ba bb (by omega) h1 h2
  have l1 : (MemMath.put8 L0 a x).length = 2048 := by rw [MemMath.length_put8 (by omega), lr]
  obtain ⟨L2, hL2⟩ : ∃ L, MemMath.put8 (MemMath.put8 L0 a x) b y = L := ⟨_, rfl⟩
  rw [hL2] at v1 v2 v3 l2
  rw [show (if a = b then y else x) = (bif q then y else x) by rw [← eq]; by_cases h : a = b <;> simp [h]] at v3
  have H0 := Lib.hid hL0; have LR := Lib.hid lr; have LL1 := Lib.hid l1; have H2 := Lib.hid hL2; have V1 := Lib.hid v1; have V2 := Lib.hid v2; have V3 := Lib.hid v3; have LL2 := Lib.hid l2
  clear hL0 lr l1 hL2 v1 v2 v3 l2 ea eb eq
  go_enter Try.func8, Try.ntmps8
  go_wp2_with fail
  refine (alive_any _).mono ?_; rintro e w1 ⟨rfl, hb⟩
  have K1 := Blk.below (Blk.new w _ _) hb (by simp)
  have B1 := Lib.hid (((Below.refl _ w).alloc (Nat.le_refl _) _).trans (hb.mono (by simp)))
  have s1 := B1.out.size
  have c0 : w1.cell? ⟨w.heap.size, 0, none⟩ = some (.int .u64 (x : Int)) := K1.cell 0
  have c1 : w1.cell? ⟨w.heap.size, 1, none⟩ = some (.int .u64 (y : Int)) := K1.cell 1
  have c2 : w1.cell? ⟨w.heap.size, 2, none⟩ = some (.int .u8 (at_ : Int)) := K1.cell 2
  have c3 : w1.cell? ⟨w.heap.size, 3, none⟩ = some (.int .u8 (ot : Int)) := K1.cell 3
  clear K1 hb
  go_wp2_with fail
  go_quiet (fail)
  clear c0 c1 c2 c3
  go_wp2_with fail
  refine (new_ok 2048 (by decide) (by decide) (by decide) _).mono ?_; rintro e w2 ⟨p, g, rfl, hm, hp, hg, hu⟩
  have B2 := Lib.hid ((below_drewN B1.out nq).trans (below_false hu s1))
  rw [H0.out] at hm
  have M2 := Lib.hid hm
  have s2 := B2.out.size
  have hg' : w.heap.size ≤ g := Nat.le_trans s1 hg
  clear hu hm hp hg
  go_wp2_with fail
  refine (store_ok M2.out a 8 x W8 (Nat.lt_succ_of_le h1) h1 (by rw [LR.out]; exact ba)).mono ?_; rintro e w3 ⟨rfl, hm, hu⟩
  have B3 := Lib.hid (B2.out.trans (below_one hu s2 hg')); have M3 : Hid (IsMem w3 p g (MemMath.put8 L0 a x)) := Lib.hid hm
  have s3 := B3.out.size
  clear hu hm
  go_wp2_with fail
  refine (store_ok M3.out b 8 y W8 (Nat.lt_succ_of_le h2) h2 (by rw [LL1.out]; exact bb)).mono ?_; rintro e w4 ⟨rfl, hm, hu⟩
  have B4 := Lib.hid (B3.out.trans (below_one hu s3 hg'))
  have M4 : Hid (IsMem w4 p g L2) := Lib.hid (H2.out ▸ hm)
  have s4 := B4.out.size
  clear hu hm
  go_wp2_with fail
  refine (load_ok M4.out a 8 W8 (by rw [LL2.out]; exact ba)).mono ?_; rw [V3.out]; rintro e w5 ⟨rfl, rfl⟩
  go_wp2_with fail
  refine (load_ok M4.out b 8 W8 (by rw [LL2.out]; exact bb)).mono ?_; rw [V1.out]; rintro e w5 ⟨rfl, rfl⟩
  cases q
  all_goals
    simp only [cond_true, cond_false, Bool.not_true, Bool.not_false] at t2 ⊢
    go_wp2_with fail
    refine (get_ok M4.out b 8 (by rw [LL2.out]; exact bb)).mono ?_; rw [V2.out]; rintro e w5 ⟨b2, z, rfl, hr, hb2, hu⟩
    have B5 := Lib.hid (B4.out.trans (below_false hu s4)); have M5 := Lib.hid (M4.out.upd hu id id)
    have R5 := Lib.hid (Bytes.front hr)
    have RC := Lib.hid hr
    rw [MemMath.length_le]
    clear hu hr
    go_wp2
    go_loop [108] (fun i => LoopRel i) (fun i => 8 - (intOf i).toNat)
    case atStart => exact ⟨0, by decide, rfl⟩
    case round =>
      obtain ⟨k, hk, rfl⟩ := hrel
      by_cases hlt : k < 8
      · have hc := RC.out.cell k (by rw [List.length_append, MemMath.length_le]; omega)
        rw [le_front y z k hlt] at hc
        have ht : ((y : Int) / 256 ^ k % 256 != (y : Int) / 2 ^ (8 * k) % 256) = false := byte_eq y k
        go_wp2
        exact ⟨⟨k + 1, by omega, by go_num⟩, by simp [intOf]; omega⟩
      · obtain rfl : k = 8 := by omega
        go_wp2_with fail
        refine (put_ok M5.out a _ _ (MemMath.le 8 y) (R5.out _) (MemMath.byt_le _ _) (by rw [MemMath.length_le, LL2.out]; exact ba)).mono ?_; rintro e w6 ⟨rfl, hm, hu⟩
        have B6 := Lib.hid (B5.out.trans (below_one hu B5.out.size hg'))
        clear hm hu
        go_wp2
        go_ret
        exact ⟨rfl, B6.out⟩

theorem walk (w : World) (x : Int) (h1 : (Lit.int .u64 x).wf = true) (y : Int) (h2 : (Lit.int .u64 y).wf = true) (a : Int) (h3 : (Lit.int .u8 a).wf = true) (b : Int) (h4 : (Lit.int .u8 b).wf = true) :
    Calls Try.prog 8 #[.agg #[.int .u64 x, .int .u64 y, .int .u8 a, .int .u8 b]] w fun e w' => e = .returned (.bool true) ∧ Below w.heap.size w w' := by
  have c : ∀ n : Int, (Lit.int .u64 n).wf = true → 0 ≤ n ∧ n ≤ 18446744073709551615 := by
    intro n h; simp [Lit.wf, IntKind.min, IntKind.max, IntKind.signed, IntKind.bits] at h; omega
  have d : ∀ n : Int, (Lit.int .u8 n).wf = true → 0 ≤ n ∧ n ≤ 255 := by
    intro n h; simp [Lit.wf, IntKind.min, IntKind.max, IntKind.signed, IntKind.bits] at h; omega
  have c1 := c _ h1; have c2 := c _ h2; have d3 := d _ h3; have d4 := d _ h4
  obtain ⟨x, rfl⟩ := Int.eq_ofNat_of_zero_le c1.1
  obtain ⟨y, rfl⟩ := Int.eq_ofNat_of_zero_le c2.1
  obtain ⟨a, rfl⟩ := Int.eq_ofNat_of_zero_le d3.1
  obtain ⟨b, rfl⟩ := Int.eq_ofNat_of_zero_le d4.1
  exact walk_short w x y a b _ _ (by omega) (by omega) (by omega) (by omega) rfl rfl _ rfl
end Go.Proofs.Ytkgddefahfbjaaa.memWords
