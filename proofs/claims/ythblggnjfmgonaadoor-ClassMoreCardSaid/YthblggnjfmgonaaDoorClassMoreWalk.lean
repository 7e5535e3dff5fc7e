/- The law ClassMore, walked. -/
import Derived.Test.YthblggnjfmgonaaDoorAliveC
namespace Go.Proofs.YthblggnjfmgonaaDoor.classMore
open Go.RowKit ClassMath
set_option linter.unusedVariables false

theorem u32_bd {n : Int} (h : (Lit.int .u32 n).wf = true) : 0 ≤ n ∧ n ≤ 4294967295 := by
  simp [Lit.wf, IntKind.min, IntKind.max, IntKind.signed, IntKind.bits] at h; omega
theorem u8_bd {n : Int} (h : (Lit.int .u8 n).wf = true) : 0 ≤ n ∧ n ≤ 255 := by
  simp [Lit.wf, IntKind.min, IntKind.max, IntKind.signed, IntKind.bits] at h; omega
theorem shl_nat (y P : Nat) (hP : 2 ^ y = P) (hy : y ≤ 10) : IntKind.u64.wrap ((2 : Int) ^ y) = (P : Int) := by
  have e : ((2 : Int) ^ y) = (P : Int) := by rw [← hP]; push_cast; rfl
  have : P ≤ 1024 := by rw [← hP]; exact Nat.le_trans (Nat.pow_le_pow_right (show 0 < 2 by decide) hy) (by decide)
  rw [e, u64_in _ ⟨by omega, by omega⟩]
set_option maxHeartbeats 2000000 in
theorem walk_of (w : World) (C : Cl w) (n : Int) (h1 : (Lit.int .u32 n).wf = true) (mo : Int) (h2 : (Lit.int .u32 mo).wf = true) (bit : Int) (h3 : (Lit.int .u8 bit).wf = true) :
    Calls Tryd.prog 7 #[.int .u32 n, .int .u32 mo, .int .u8 bit] w fun e w' => e = .returned (.bool true) ∧ Below w.heap.size w w' := by
  have b1 := u32_bd h1
  have b2 := u32_bd h2
  have b3 := u8_bd h3
  obtain ⟨n, rfl⟩ := Int.eq_ofNat_of_zero_le b1.1
  obtain ⟨mo, rfl⟩ := Int.eq_ofNat_of_zero_le b2.1
  obtain ⟨bit, rfl⟩ := Int.eq_ofNat_of_zero_le b3.1
  have hnb : n ≤ 4294967295 := by omega
  have hmb : mo ≤ 4294967295 := by omega
  have hbb : bit ≤ 255 := by omega
  obtain ⟨a, ha⟩ : ∃ a, n % 1048577 = a := ⟨_, rfl⟩
  have ha0 : a ≤ 1048576 := by omega
  have hm1 : Int.tmod (n : Int) 1048577 = (a : Int) := by rw [← ha]; exact (Int.ofNat_tmod _ _).symm
  have hm2 : (n : Int) % 1048577 = (a : Int) := by omega
  obtain ⟨d, hd⟩ : ∃ d, 1048577 - a = d := ⟨_, rfl⟩
  have hd1 : 1 ≤ d := by omega
  have hdi : (1048577 : Int) - (a : Int) = (d : Int) := by omega
  obtain ⟨e, he⟩ : ∃ e, mo % d = e := ⟨_, rfl⟩
  have he1 : e < d := by rw [← he]; exact Nat.mod_lt _ (by omega)
  have hm3 : Int.tmod (mo : Int) ((1048577 : Int) - (a : Int)) = (e : Int) := by rw [hdi, ← he]; exact (Int.ofNat_tmod _ _).symm
  have hm4 : (mo : Int) % ((1048577 : Int) - (a : Int)) = (e : Int) := by rw [hdi, ← he]; exact (Int.natCast_emod _ _).symm
  obtain ⟨b, hb0⟩ : ∃ b, a + e = b := ⟨_, rfl⟩
  have hab : (a : Int) + (e : Int) = (b : Int) := by omega
  have hbb2 : b ≤ 1048576 := by omega
  have hble : a ≤ b := by omega
  obtain ⟨y, hy⟩ : ∃ y, bit % 11 = y := ⟨_, rfl⟩
  have hy1 : y ≤ 10 := by omega
  have hm5 : Int.tmod (bit : Int) 11 = (y : Int) := by rw [← hy]; exact (Int.ofNat_tmod _ _).symm
  have hm6 : (bit : Int) % 11 = (y : Int) := by omega
  obtain ⟨P, hP⟩ : ∃ P, 2 ^ y = P := ⟨_, rfl⟩
  have hsh := shl_nat y P hP hy1
  have hsh2 : IntKind.u64.wrap ((2 : Int) ^ (bit % 11)) = (P : Int) := by rw [hy]; exact hsh
  have hal : isAl P = true := by rw [← hP]; exact al_pow hy1
  have hPb := isAl_pos hal
  have p1 := C.for_ a P (by omega) (by omega)
  have p2 := C.for_ b P (by omega) (by omega)
  have p3 := C.for_ a 1 (by omega) (by decide)
  have p4 := C.for_ 0 P (by decide) (by omega)
  have p5 := C.for_ 1 P (by decide) (by omega)
  rw [forN_ok hal ha0] at p1
  rw [forN_ok hal hbb2] at p2
  rw [forN_ok one_al ha0] at p3
  rw [forN_zero hal] at p4
  rw [forN_ok hal (by decide : 1 ≤ 1048576)] at p4 p5
  have q1 := forN_mono hal hble hbb2
  have q2 := forN_one hal ha0
  obtain ⟨⟨c1, sl1, sg1, us1⟩, e1⟩ : ∃ p, (forN a P).1 = p := ⟨_, rfl⟩
  obtain ⟨⟨c2, sl2, sg2, us2⟩, e2⟩ : ∃ p, (forN b P).1 = p := ⟨_, rfl⟩
  obtain ⟨⟨c3, sl3, sg3, us3⟩, e3⟩ : ∃ p, (forN a 1).1 = p := ⟨_, rfl⟩
  obtain ⟨⟨c4, sl4, sg4, us4⟩, e4⟩ : ∃ p, (forN 1 P).1 = p := ⟨_, rfl⟩
  rw [e1] at p1 q1 q2
  rw [e2] at p2 q1
  rw [e3] at p3 q2
  rw [e4] at p4 p5
  simp only [plV] at p1 p2 p3 p4 p5 q1 q2
  have P1 := Lib.hid p1; have P2 := Lib.hid p2; have P3 := Lib.hid p3; have P4 := Lib.hid p4; have P5 := Lib.hid p5
  have t1 : decide (us1 ≤ us2) = true := decide_eq_true q1
  have t2 : decide (us3 ≤ us1) = true := decide_eq_true q2
  clear h1 h2 h3 b1 b2 b3 ha hd hdi he hb0 hy hP hal p1 p2 p3 p4 p5 q1 q2 e1 e2 e3 e4
  go_enter Tryd.func7, Tryd.ntmps7
  go_wp2_with fail
  refine (alive_any _ C).mono ?_; rintro e w1 ⟨rfl, hb⟩
  have B1 := Lib.hid hb
  have s1 := hb.size
  clear hb
  go_wp2_with fail
  clear hm1 hm2 hm3 hm4 hab hm5 hm6 hsh hsh2
  refine (P1.out _ (by first | exact B1.out | exact B1.out.alloc s1 _)).mono ?_; rintro e w2 ⟨rfl, hb⟩
  have B2 := Lib.hid (B1.out.trans (hb.mono s1))
  have s2 := B2.out.size
  clear hb
  go_wp2_with fail
  refine (P2.out _ (by first | exact B2.out | exact B2.out.alloc s2 _)).mono ?_; rintro e w3 ⟨rfl, hb⟩
  have B3 := Lib.hid ((B2.out.alloc s2 _).trans (hb.mono (Nat.le_trans s2 (by simp))))
  have s3 := B3.out.size
  have K1 := Lib.hid ((Blk.new w2 39 #[.int .i64 c1, .int .i64 (sl1 : Int), .int .i64 (sg1 : Int), .int .u64 (us1 : Int)]).grew hb)
  clear hb
  go_wp2_with fail
  refine (P3.out _ (by first | exact B3.out | exact B3.out.alloc s3 _)).mono ?_; rintro e w4 ⟨rfl, hb⟩
  have B4 := Lib.hid ((B3.out.alloc s3 _).trans (hb.mono (Nat.le_trans s3 (by simp))))
  have s4 := B4.out.size
  have K1 := Lib.hid ((K1.out.alloc (.cells #[.int .i64 c2, .int .i64 (sl2 : Int), .int .i64 (sg2 : Int), .int .u64 (us2 : Int)] 39)).grew hb)
  have K2 := Lib.hid ((Blk.new w3 39 #[.int .i64 c2, .int .i64 (sl2 : Int), .int .i64 (sg2 : Int), .int .u64 (us2 : Int)]).grew hb)
  clear hb
  go_wp2_with fail
  refine (P4.out _ (by first | exact B4.out | exact B4.out.alloc s4 _)).mono ?_; rintro e w5 ⟨rfl, hb⟩
  have B5 := Lib.hid ((B4.out.alloc s4 _).trans (hb.mono (Nat.le_trans s4 (by simp))))
  have s5 := B5.out.size
  have K1 := Lib.hid ((K1.out.alloc (.cells #[.int .i64 c3, .int .i64 (sl3 : Int), .int .i64 (sg3 : Int), .int .u64 (us3 : Int)] 39)).grew hb)
  have K2 := Lib.hid ((K2.out.alloc (.cells #[.int .i64 c3, .int .i64 (sl3 : Int), .int .i64 (sg3 : Int), .int .u64 (us3 : Int)] 39)).grew hb)
  have K3 := Lib.hid ((Blk.new w4 39 #[.int .i64 c3, .int .i64 (sl3 : Int), .int .i64 (sg3 : Int), .int .u64 (us3 : Int)]).grew hb)
  clear hb
  go_wp2_with fail
  refine (P5.out _ (by first | exact B5.out | exact B5.out.alloc s5 _)).mono ?_; rintro e w6 ⟨rfl, hb⟩
  have B6 := Lib.hid ((B5.out.alloc s5 _).trans (hb.mono (Nat.le_trans s5 (by simp))))
  have s6 := B6.out.size
  have K1 := Lib.hid ((K1.out.alloc (.cells #[.int .i64 c4, .int .i64 (sl4 : Int), .int .i64 (sg4 : Int), .int .u64 (us4 : Int)] 39)).grew hb)
  have K2 := Lib.hid ((K2.out.alloc (.cells #[.int .i64 c4, .int .i64 (sl4 : Int), .int .i64 (sg4 : Int), .int .u64 (us4 : Int)] 39)).grew hb)
  have K3 := Lib.hid ((K3.out.alloc (.cells #[.int .i64 c4, .int .i64 (sl4 : Int), .int .i64 (sg4 : Int), .int .u64 (us4 : Int)] 39)).grew hb)
  have K4 := Lib.hid ((Blk.new w5 39 #[.int .i64 c4, .int .i64 (sl4 : Int), .int .i64 (sg4 : Int), .int .u64 (us4 : Int)]).grew hb)
  clear hb
  have x13 := (K1.out.alloc (.cells #[.int .i64 c4, .int .i64 (sl4 : Int), .int .i64 (sg4 : Int), .int .u64 (us4 : Int)] 39)).cell 3
  have x23 := (K2.out.alloc (.cells #[.int .i64 c4, .int .i64 (sl4 : Int), .int .i64 (sg4 : Int), .int .u64 (us4 : Int)] 39)).cell 3
  have x33 := (K3.out.alloc (.cells #[.int .i64 c4, .int .i64 (sl4 : Int), .int .i64 (sg4 : Int), .int .u64 (us4 : Int)] 39)).cell 3
  have x40 := (K4.out.alloc (.cells #[.int .i64 c4, .int .i64 (sl4 : Int), .int .i64 (sg4 : Int), .int .u64 (us4 : Int)] 39)).cell 0
  have x41 := (K4.out.alloc (.cells #[.int .i64 c4, .int .i64 (sl4 : Int), .int .i64 (sg4 : Int), .int .u64 (us4 : Int)] 39)).cell 1
  have x42 := (K4.out.alloc (.cells #[.int .i64 c4, .int .i64 (sl4 : Int), .int .i64 (sg4 : Int), .int .u64 (us4 : Int)] 39)).cell 2
  have x43 := (K4.out.alloc (.cells #[.int .i64 c4, .int .i64 (sl4 : Int), .int .i64 (sg4 : Int), .int .u64 (us4 : Int)] 39)).cell 3
  simp only [List.getElem?_toArray, List.getElem?_cons_succ, List.getElem?_cons_zero] at x13 x23 x33 x40 x41 x42 x43
  go_wp2
  go_ret
  exact ⟨rfl, B6.out.alloc s6 _⟩
end Go.Proofs.YthblggnjfmgonaaDoor.classMore
