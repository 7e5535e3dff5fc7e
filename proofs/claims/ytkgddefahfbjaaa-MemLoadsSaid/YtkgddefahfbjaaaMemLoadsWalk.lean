/- The law MemLoads, walked. -/
import Derived.Test.YtkgddefahfbjaaaMemCasWalk
namespace Go.Proofs.Ytkgddefahfbjaaa.memLoads
open Go.RowKit
set_option linter.unusedVariables false

theorem loads {L0 : List Nat} {a x c : Nat} (h0 : L0.length = 2048) (ha : 1 ≤ a) (hb : a + 9 ≤ 2048) (hx : x ≤ 18446744073709551615) :
    (splice L0 0 (MemMath.fill 2048 [c])).length = 2048 ∧ (MemMath.put8 (splice L0 0 (MemMath.fill 2048 [c])) a x).length = 2048 ∧
    (∀ n, n ≤ 8 → MemMath.val (MemMath.part (MemMath.put8 (splice L0 0 (MemMath.fill 2048 [c])) a x) a n) = x % 256 ^ n) ∧
    (∀ i, i < 8 → MemMath.val (MemMath.part (MemMath.put8 (splice L0 0 (MemMath.fill 2048 [c])) a x) (a + i) 1) = x / 256 ^ i % 256) ∧
    MemMath.val (MemMath.part (MemMath.put8 (splice L0 0 (MemMath.fill 2048 [c])) a x) (a - 1) 1) = c ∧
    MemMath.val (MemMath.part (MemMath.put8 (splice L0 0 (MemMath.fill 2048 [c])) a x) (a + 8) 1) = c := by
  have l1 : (splice L0 0 (MemMath.fill 2048 [c])).length = 2048 := by rw [MemMath.length_splice' (by rw [MemMath.length_fill]; omega), h0]
  have g1 : ∀ i, i < 2048 → (splice L0 0 (MemMath.fill 2048 [c])).getD i 0 = c := by
    intro i hi
    rw [MemMath.getD_splice (by rw [MemMath.length_fill]; omega), MemMath.length_fill, if_pos (by omega), MemMath.fill_one, MemMath.getD_rep (by omega)]
  obtain ⟨L1, hL1⟩ : ∃ L, splice L0 0 (MemMath.fill 2048 [c]) = L := ⟨_, rfl⟩
  rw [hL1] at l1 g1 ⊢
  clear hL1
  have hl := MemMath.length_le 8 x
  refine ⟨l1, by rw [MemMath.length_put8 (by omega), l1], fun n hn => ?_, fun i hi => ?_, ?_, ?_⟩
  · unfold MemMath.put8
    rw [MemMath.part_splice_in (by omega) (by omega) (by omega), Nat.sub_self, MemMath.part_le_take hn, MemMath.val_le]
  · unfold MemMath.put8
    rw [MemMath.part_splice_in (by omega) (by omega) (by omega), Nat.add_sub_cancel_left, MemMath.part_one (by omega), MemMath.getD_le _ _ _ hi]
    simp [MemMath.val]
  · rw [MemMath.part_put8_out (by omega) (by omega) (by omega), MemMath.part_one (by omega), g1 _ (by omega)]
    simp [MemMath.val]
  · rw [MemMath.part_put8_out (by omega) (by omega) (by omega), MemMath.part_one (by omega), g1 _ (by omega)]
    simp [MemMath.val]

theorem byte_and (x k : Nat) (hx : x ≤ 18446744073709551615) : ((x : Int) / 256 ^ k % 256 != bits .and .u64 ((x : Int) / 2 ^ (8 * k)) 255) = false := by
  have e1 : ((x : Int) / 2 ^ (8 * k)) = ((x / 2 ^ (8 * k) : Nat) : Int) := by simp
  have hle : x / 2 ^ (8 * k) ≤ x := Nat.div_le_self _ _
  rw [bne_eq_false_iff_eq, e1, show (255 : Int) = ((255 : Nat) : Int) from rfl, u64_and_nat _ _ (by omega) (by omega), show (255 : Nat) = 2 ^ 8 - 1 from rfl, Nat.and_two_pow_sub_one_eq_mod, Nat.pow_mul]
  rfl

def LoopRel4 (i : Value) : Prop := ∃ k : Nat, k ≤ 4 ∧ i = .int .i64 (k : Int)
def LoopRel8 (i : Value) : Prop := ∃ k : Nat, k ≤ 8 ∧ i = .int .u64 (k : Int)

set_option maxRecDepth 100000 in
set_option maxHeartbeats 1600000 in
theorem walk_short (w : World) (x at_ c a : Nat) (h1 : x ≤ 18446744073709551615) (h2 : at_ ≤ 65535) (h3 : c ≤ 255) (ea : at_ % 2000 + 8 = a) :
    Calls Try.prog 3 #[.int .u64 (x : Int), .int .u16 (at_ : Int), .int .u8 (c : Int)] w fun e w' => e = .returned (.bool true) ∧ Below w.heap.size w w' := by
  have ia : (at_ : Int) % 2000 + 8 = (a : Int) := by omega
  have ba : 8 ≤ a := by omega
  have ba' : a + 9 ≤ 2048 := by omega
  have lr : (MemMath.rep 2048 0).length = 2048 := MemMath.length_rep _ _
  obtain ⟨L0, hL0⟩ : ∃ L, MemMath.rep 2048 0 = L := ⟨_, rfl⟩
  rw [hL0] at lr
  obtain ⟨l1, l2, v1, v2, v3, v4⟩ := loads (c := c) lr (by omega) ba' h1
  obtain ⟨L1, hL1⟩ : ∃ L, splice L0 0 (MemMath.fill 2048 [c]) = L := ⟨_, rfl⟩
  rw [hL1] at l1 l2 v1 v2 v3 v4
  obtain ⟨L2, hL2⟩ : ∃ L, MemMath.put8 L1 a x = L := ⟨_, rfl⟩
  rw [hL2] at l2 v1 v2 v3 v4
  have H0 := Lib.hid hL0; have LR := Lib.hid lr; have H1 := Lib.hid hL1; have H2 := Lib.hid hL2; have LL1 := Lib.hid l1; have LL2 := Lib.hid l2; have V1 := Lib.hid v1; have V2 := Lib.hid v2; have V3 := Lib.hid v3; have V4 := Lib.hid v4
  obtain ⟨a1, e1⟩ : ∃ a1, a - 1 = a1 := ⟨_, rfl⟩
  rw [e1] at V3
  have e2 : (a : Int) - 1 = (a1 : Int) := by omega
  have e3 : a1 + 1 ≤ 2048 := by omega
  clear hL0 e1 lr hL1 l1 hL2 l2 v1 v2 v3 v4 ea
  have i0 : ∀ w, (Instr.index 33 (.agg #[.int .i64 1, .int .i64 2, .int .i64 4, .int .i64 8]) (.int .i64 0)).run Try.prog w = .ok (.int .i64 1) w := fun _ => by kernel_rfl
  have i1 : ∀ w, (Instr.index 33 (.agg #[.int .i64 1, .int .i64 2, .int .i64 4, .int .i64 8]) (.int .i64 1)).run Try.prog w = .ok (.int .i64 2) w := fun _ => by kernel_rfl
  have i2 : ∀ w, (Instr.index 33 (.agg #[.int .i64 1, .int .i64 2, .int .i64 4, .int .i64 8]) (.int .i64 2)).run Try.prog w = .ok (.int .i64 4) w := fun _ => by kernel_rfl
  have i3 : ∀ w, (Instr.index 33 (.agg #[.int .i64 1, .int .i64 2, .int .i64 4, .int .i64 8]) (.int .i64 3)).run Try.prog w = .ok (.int .i64 8) w := fun _ => by kernel_rfl
  go_enter Try.func3, Try.ntmps3
  go_wp2_with fail
  refine (alive_any _).mono ?_; rintro e w1 ⟨rfl, hb⟩
  have B1 := Lib.hid hb
  have s1 := B1.out.size
  clear hb
  go_wp2_with fail
  refine (new_ok 2048 (by decide) (by decide) (by decide) _).mono ?_; rintro e w2 ⟨p, g, rfl, hm, hp, hg, hu⟩
  have B2 := Lib.hid (B1.out.trans (below_false hu s1))
  rw [H0.out] at hm
  have M2 := Lib.hid hm
  have s2 := B2.out.size
  have hg' : w.heap.size ≤ g := Nat.le_trans s1 hg
  clear hu hm hp hg
  go_wp2_with fail
  refine (fill_some (M2.out.alloc _) 0 2048 _ _ [c] ((Bytes.new w2 5 [c]).all 1) (.cons (by omega) .nil) (by simp) (by simp) (by rw [LR.out]; decide)).mono ?_; rintro e w3 ⟨rfl, hm, hu⟩
  have B3 := Lib.hid ((B2.out.alloc s2 _).trans (below_one hu (Nat.le_trans s2 (by simp)) hg'))
  rw [H1.out] at hm
  have M3 := Lib.hid hm
  have s3 := B3.out.size
  clear hu hm
  go_wp2_with fail
  refine (store_ok M3.out a 8 x W8 (Nat.lt_succ_of_le h1) h1 (by rw [LL1.out]; omega)).mono ?_; rintro e w4 ⟨rfl, hm, hu⟩
  have B4 := Lib.hid (B3.out.trans (below_one hu s3 hg'))
  have M4 : Hid (IsMem w4 p g L2) := Lib.hid (H2.out ▸ hm)
  clear hu hm
  go_wp2_with fail
  refine (load_ok M4.out a 8 W8 (by rw [LL2.out]; omega)).mono ?_; rw [V1.out 8 (by decide), Nat.mod_eq_of_lt (show x < 256 ^ 8 from Nat.lt_succ_of_le h1)]; rintro e w5 ⟨rfl, rfl⟩
  go_wp2_with fail
  go_loop [67] (fun i => LoopRel4 i) (fun i => 4 - (intOf i).toNat)
  case atStart => exact ⟨0, by decide, rfl⟩
  case round =>
    obtain ⟨k, hk, rfl⟩ := hrel
    rcases (show k = 0 ∨ k = 1 ∨ k = 2 ∨ k = 3 ∨ k = 4 by omega) with rfl | rfl | rfl | rfl | rfl
    · go_wp2_with (go_at_call 13; refine (load_ok M4.out a 1 (.inl rfl) (by rw [LL2.out]; omega)).mono ?_; rw [V1.out 1 (by decide)]; rintro e w5 ⟨rfl, rfl⟩)
      exact ⟨⟨1, by omega, rfl⟩, by simp [intOf]⟩
    · go_wp2_with (go_at_call 13; refine (load_ok M4.out a 2 (.inr (.inl rfl)) (by rw [LL2.out]; omega)).mono ?_; rw [V1.out 2 (by decide)]; rintro e w5 ⟨rfl, rfl⟩)
      exact ⟨⟨2, by omega, rfl⟩, by simp [intOf]⟩
    · go_wp2_with (go_at_call 13; refine (load_ok M4.out a 4 (.inr (.inr (.inl rfl))) (by rw [LL2.out]; omega)).mono ?_; rw [V1.out 4 (by decide)]; rintro e w5 ⟨rfl, rfl⟩)
      exact ⟨⟨3, by omega, rfl⟩, by simp [intOf]⟩
    · go_wp2_with (go_at_call 13; refine (load_ok M4.out a 8 W8 (by rw [LL2.out]; omega)).mono ?_; rw [V1.out 8 (by decide)]; rintro e w5 ⟨rfl, rfl⟩)
      exact ⟨⟨4, by omega, rfl⟩, by simp [intOf]⟩
    · go_wp2
      go_loop [95] (fun i => LoopRel8 i) (fun i => 8 - (intOf i).toNat)
      case atStart => exact ⟨0, by decide, rfl⟩
      case round =>
        obtain ⟨k, hk, rfl⟩ := hrel
        by_cases hlt : k < 8
        · have hl := load_ok M4.out (a + k) 1 (.inl rfl) (by rw [LL2.out]; omega)
          rw [V2.out k hlt] at hl
          have HL := Lib.hid hl
          clear hl
          have hb := byte_and x k h1
          go_wp2_with (go_at_call 13; refine HL.out.mono ?_; rintro e w5 ⟨rfl, rfl⟩)
          exact ⟨⟨k + 1, by omega, by go_num⟩, by simp [intOf]; omega⟩
        · obtain rfl : k = 8 := by omega
          go_wp2_with fail
          refine (load_ok M4.out a1 1 (.inl rfl) (by rw [LL2.out]; exact e3)).mono ?_; rw [V3.out]; rintro e w5 ⟨rfl, rfl⟩
          go_wp2_with fail
          refine (load_ok M4.out (a + 8) 1 (.inl rfl) (by rw [LL2.out]; omega)).mono ?_; rw [V4.out]; rintro e w5 ⟨rfl, rfl⟩
          go_wp2
          go_ret
          exact ⟨rfl, B4.out⟩

theorem walk (w : World) (x : Int) (hx : (Lit.int .u64 x).wf = true) (y : Int) (hy : (Lit.int .u16 y).wf = true) (z : Int) (hz : (Lit.int .u8 z).wf = true) :
    Calls Try.prog 3 #[.int .u64 x, .int .u16 y, .int .u8 z] w fun e w' => e = .returned (.bool true) ∧ Below w.heap.size w w' := by
  have d1 : 0 ≤ x ∧ x ≤ 18446744073709551615 := by simp [Lit.wf, IntKind.min, IntKind.max, IntKind.signed, IntKind.bits] at hx; omega
  have d2 : 0 ≤ y ∧ y ≤ 65535 := by simp [Lit.wf, IntKind.min, IntKind.max, IntKind.signed, IntKind.bits] at hy; omega
  have d3 : 0 ≤ z ∧ z ≤ 255 := by simp [Lit.wf, IntKind.min, IntKind.max, IntKind.signed, IntKind.bits] at hz; omega
  obtain ⟨x, rfl⟩ := Int.eq_ofNat_of_zero_le d1.1
  obtain ⟨y, rfl⟩ := Int.eq_ofNat_of_zero_le d2.1
  obtain ⟨z, rfl⟩ := Int.eq_ofNat_of_zero_le d3.1
  exact walk_short w x y z _ (by omega) (by omega) (by omega) rfl
end Go.Proofs.Ytkgddefahfbjaaa.memLoads
