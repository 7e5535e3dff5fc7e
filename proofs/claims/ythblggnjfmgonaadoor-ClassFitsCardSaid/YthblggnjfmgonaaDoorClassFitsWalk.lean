/- The law ClassFits, walked. -/
import Derived.Test.YthblggnjfmgonaaDoorAliveC
namespace Go.Proofs.YthblggnjfmgonaaDoor.classFits
open Go.RowKit ClassMath
set_option linter.unusedVariables false

theorem u8_bd {n : Int} (h : (Lit.int .u8 n).wf = true) : 0 ≤ n ∧ n ≤ 255 := by
  simp [Lit.wf, IntKind.min, IntKind.max, IntKind.signed, IntKind.bits] at h; omega
set_option maxHeartbeats 2000000 in
theorem walk_of (w : World) (C : Cl w) (c : Int) (h1 : (Lit.int .u8 c).wf = true) :
    Calls Tryd.prog 6 #[.int .u8 c] w fun e w' => e = .returned (.bool true) ∧ Below w.heap.size w w' := by
  have b1 := u8_bd h1
  obtain ⟨c, rfl⟩ := Int.eq_ofNat_of_zero_le b1.1
  have hcb : c ≤ 255 := by omega
  obtain ⟨k, hk⟩ : ∃ k, c % 12 = k := ⟨_, rfl⟩
  have hk1 : k < 12 := by omega
  have hm1 : Int.tmod (c : Int) 12 = (k : Int) := by rw [← hk]; exact (Int.ofNat_tmod _ _).symm
  have hm2 : (c : Int) % 12 = (k : Int) := by omega
  have p1 := C.size k hk1
  have p2 := C.blocks k hk1
  have p3 := C.slices k hk1
  have z1 := size_bounds hk1
  have z2 := slices_bounds hk1
  have z3 := blocks_fit hk1
  have z4 := size_16 hk1
  have p4 := C.of_ (sizeAt k) (by omega)
  have p5 := C.of_ (sizeAt k + 1) (by omega)
  rw [ofN_size hk1] at p4
  replace p4 : MadeBy w 14 #[.int .u64 (sizeAt k : Int)] (.tuple #[.int .i64 (k : Int), .int .i64 0]) := p4
  have p6 : (k + 1 < 12 → MadeBy w 14 #[.int .u64 ((sizeAt k + 1 : Nat) : Int)] (.tuple #[.int .i64 ((k + 1 : Nat) : Int), .int .i64 0])) ∧
      (¬ k + 1 < 12 → ∃ x : Int, MadeBy w 14 #[.int .u64 ((sizeAt k + 1 : Nat) : Int)] (.tuple #[.int .i64 x, .int .i64 2])) := by
    constructor
    · intro h
      rw [ofN_next (by omega)] at p5
      exact p5
    · intro h
      obtain rfl : k = 11 := by omega
      rw [ofN_top] at p5
      exact ⟨_, p5⟩
  clear p5
  obtain ⟨sz, hs⟩ : ∃ x, sizeAt k = x := ⟨_, rfl⟩
  obtain ⟨sl, hl⟩ : ∃ x, slicesAt k = x := ⟨_, rfl⟩
  obtain ⟨bl, hb⟩ : ∃ x, blocksAt k = x := ⟨_, rfl⟩
  rw [hs] at p1 p4 p6 z1 z3 z4
  rw [hb] at p2 z3
  rw [hl] at p3 z2 z3
  have P1 := Lib.hid p1; have P2 := Lib.hid p2; have P3 := Lib.hid p3; have P4 := Lib.hid p4; have P6 := Lib.hid p6
  have y1 : (0 : Int) ≤ (bl : Int) * (sz : Int) := Int.mul_nonneg (by omega) (by omega)
  have z5 : bl * sz ≤ 4096 := by omega
  have y2 : (bl : Int) * (sz : Int) ≤ 4096 := by have := Int.ofNat_le.2 z5; rw [Int.natCast_mul] at this; omega
  have z6 : (bl + 1) * sz ≤ 65 * 1024 := Nat.mul_le_mul (by omega) (by omega)
  have y3 : (0 : Int) ≤ ((bl : Int) + 1) * (sz : Int) := Int.mul_nonneg (by omega) (by omega)
  have y4 : ((bl : Int) + 1) * (sz : Int) ≤ 65 * 1024 := by have := Int.ofNat_le.2 z6; rw [Int.natCast_mul, Int.natCast_add, Int.natCast_one] at this; omega
  have t1 : decide ((sl : Int) * 1024 < (bl : Int) * (sz : Int)) = false := decide_eq_false (by
    have : (bl : Int) * (sz : Int) ≤ 1024 * (sl : Int) := by have := Int.ofNat_le.2 z3.2.2.1; rw [Int.natCast_mul, Int.natCast_mul] at this; omega
    omega)
  have t2 : decide (((bl : Int) + 1) * (sz : Int) ≤ (sl : Int) * 1024) = false := decide_eq_false (by
    have : 1024 * (sl : Int) < ((bl : Int) + 1) * (sz : Int) := by have := Int.ofNat_lt.2 z3.2.2.2; rw [Int.natCast_mul, Int.natCast_mul, Int.natCast_add, Int.natCast_one] at this; omega
    omega)
  have m1 : Int.tmod (sz : Int) 16 = 0 := by
    have : Int.tmod (sz : Int) 16 = ((sz % 16 : Nat) : Int) := (Int.ofNat_tmod _ _).symm
    rw [this, z4]; rfl
  have m2 : (sz : Int) % 16 = 0 := by omega
  have u1 : 16 ≤ sz := z1.1
  have u2 : sz ≤ 1024 := z1.2
  have u3 : 1 ≤ sl := z2.1
  have u4 : sl ≤ 4 := z2.2
  have u5 : 1 ≤ bl := z3.1
  have u6 : bl ≤ 64 := z3.2.1
  clear h1 b1 hk p1 p2 p3 p4 p6 z1 z2 z3 z4 z5 z6 hs hl hb
  go_enter Tryd.func6, Tryd.ntmps6
  go_wp2_with fail
  refine (alive_any _ C).mono ?_; rintro e w1 ⟨rfl, hb⟩
  have B1 := Lib.hid hb
  have s1 := hb.size
  clear hb
  go_wp2_with fail
  refine (P1.out _ (by first | exact B1.out | exact B1.out.alloc s1 _)).mono ?_; rintro e w2 ⟨rfl, hb⟩
  have B2 := Lib.hid (B1.out.trans (hb.mono s1))
  have s2 := B2.out.size
  clear hb
  go_wp2_with fail
  refine (P2.out _ (by first | exact B2.out | exact B2.out.alloc s2 _)).mono ?_; rintro e w3 ⟨rfl, hb⟩
  have B3 := Lib.hid (B2.out.trans (hb.mono s2))
  have s3 := B3.out.size
  clear hb
  go_wp2_with fail
  refine (P3.out _ (by first | exact B3.out | exact B3.out.alloc s3 _)).mono ?_; rintro e w4 ⟨rfl, hb⟩
  have B4 := Lib.hid (B3.out.trans (hb.mono s3))
  have s4 := B4.out.size
  clear hb
  go_wp2_with fail
  refine (P4.out _ (by first | exact B4.out | exact B4.out.alloc s4 _)).mono ?_; rintro e w5 ⟨rfl, hb⟩
  have B5 := Lib.hid (B4.out.trans (hb.mono s4))
  have s5 := B5.out.size
  clear hb
  by_cases hlt : k + 1 < 12
  · have t3 : decide ((k : Int) + 1 < 12) = true := decide_eq_true (by omega)
    have P7 := Lib.hid (P6.out.1 hlt)
    go_wp2_with fail
    refine (P7.out _ (by first | exact B5.out | exact B5.out.alloc s5 _)).mono ?_; rintro e w6 ⟨rfl, hb⟩
    have B6 := Lib.hid (B5.out.trans (hb.mono s5))
    clear hb
    go_wp2
    go_ret
    exact ⟨rfl, B6.out⟩
  · have t3 : decide ((k : Int) + 1 < 12) = false := decide_eq_false (by omega)
    obtain ⟨x, hx⟩ := P6.out.2 hlt
    have P7 := Lib.hid hx
    clear hx
    go_wp2_with fail
    refine (P7.out _ (by first | exact B5.out | exact B5.out.alloc s5 _)).mono ?_; rintro e w6 ⟨rfl, hb⟩
    have B6 := Lib.hid (B5.out.trans (hb.mono s5))
    clear hb
    go_wp2
    go_ret
    exact ⟨rfl, B6.out⟩
end Go.Proofs.YthblggnjfmgonaaDoor.classFits
