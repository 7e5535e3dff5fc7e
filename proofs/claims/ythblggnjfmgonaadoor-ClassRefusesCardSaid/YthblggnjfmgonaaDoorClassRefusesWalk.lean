/- The law ClassRefuses, walked. -/
import Derived.Test.YthblggnjfmgonaaDoorAliveC
namespace Go.Proofs.YthblggnjfmgonaaDoor.classRefuses
open Go.RowKit ClassMath
set_option linter.unusedVariables false

theorem bits_and (a b : Nat) (ha : a ≤ 18446744073709551615) (hb : b ≤ 18446744073709551615) : bits BinOp.and IntKind.u64 (a : Int) (b : Int) = ((a &&& b : Nat) : Int) := by
  have hle : a &&& b ≤ 18446744073709551615 := Nat.le_trans Nat.and_le_left ha
  have e1 : BitVec.ofInt 64 (a : Int) = BitVec.ofNat 64 a := by simp
  have e2 : BitVec.ofInt 64 (b : Int) = BitVec.ofNat 64 b := by simp
  unfold bits
  show IntKind.u64.wrap (((BitVec.ofInt 64 (a : Int)) &&& (BitVec.ofInt 64 (b : Int))).toNat : Int) = _
  rw [e1, e2, BitVec.toNat_and, BitVec.toNat_ofNat, BitVec.toNat_ofNat, Nat.mod_eq_of_lt (by omega), Nat.mod_eq_of_lt (by omega), u64_in _ ⟨by omega, by omega⟩]
set_option maxHeartbeats 1000000 in
theorem walk_good (w : World) (C : Cl w) (n a : Nat) (hal : isAl a = true) (hn : n ≤ 1048576) :
    Calls Tryd.prog 8 #[.int .u64 (n : Int), .int .u64 (a : Int)] w fun e w' => e = .returned (.bool true) ∧ Below w.heap.size w w' := by
  obtain ⟨ha1, ha2⟩ := isAl_pos hal
  have h1 := C.for_ n a (by omega) (by omega)
  rw [forN_ok hal hn] at h1
  obtain ⟨⟨c, sl, sg, us⟩, hp⟩ : ∃ p, (forN n a).1 = p := ⟨_, rfl⟩
  rw [hp] at h1
  simp only [plV] at h1
  have H1 := Lib.hid h1
  have t1 : decide ((1048576 : Int) < (n : Int)) = false := decide_eq_false (by omega)
  have t2 : ((a : Int) == 0) = false := by rw [beq_eq_false_iff_ne]; omega
  have t3 : decide ((1024 : Int) < (a : Int)) = false := decide_eq_false (by omega)
  have t4 : bits BinOp.and IntKind.u64 (a : Int) ((a : Int) - 1) = 0 := by
    rw [show (a : Int) - 1 = ((a - 1 : Nat) : Int) by omega, bits_and _ _ (by omega) (by omega), (al_bits ha1 ha2).2 hal]; rfl
  clear h1 hp
  go_enter Tryd.func8, Tryd.ntmps8
  go_wp2_with fail
  refine (alive_any _ C).mono ?_; rintro e w1 ⟨rfl, hb⟩
  have B1 := Lib.hid hb
  have s1 := hb.size
  clear hb
  go_wp2_with fail
  refine (H1.out _ (by first | exact B1.out | exact B1.out.alloc s1 _)).mono ?_; rintro e w2 ⟨rfl, hb⟩
  have B2 := Lib.hid (B1.out.trans (hb.mono s1))
  have s2 := B2.out.size
  clear hb
  go_wp2
  go_ret
  exact ⟨rfl, B2.out.alloc s2 _⟩
set_option maxHeartbeats 1000000 in
theorem walk_bad (w : World) (C : Cl w) (n a : Nat) (hn : n ≤ 18446744073709551615) (ha : a ≤ 18446744073709551615) (hbad : ¬ (isAl a = true ∧ n ≤ 1048576)) :
    Calls Tryd.prog 8 #[.int .u64 (n : Int), .int .u64 (a : Int)] w fun e w' => e = .returned (.bool true) ∧ Below w.heap.size w w' := by
  have h1 := C.for_ n a hn ha
  rw [forN_bad hbad] at h1
  simp only [plV, Pl.none] at h1
  have H1 := Lib.hid h1
  clear h1
  by_cases hn2 : 1048576 < n
  · have t1 : decide ((1048576 : Int) < (n : Int)) = true := decide_eq_true (by omega)
    clear hbad hn2
    go_enter Tryd.func8, Tryd.ntmps8
    go_wp2_with fail
    refine (alive_any _ C).mono ?_; rintro e w1 ⟨rfl, hb⟩
    have B1 := Lib.hid hb
    have s1 := hb.size
    clear hb
    go_wp2_with fail
    refine (H1.out _ (by first | exact B1.out | exact B1.out.alloc s1 _)).mono ?_; rintro e w2 ⟨rfl, hb⟩
    have B2 := Lib.hid (B1.out.trans (hb.mono s1))
    have s2 := B2.out.size
    clear hb
    go_wp2
    go_ret
    exact ⟨rfl, B2.out.alloc s2 _⟩
  · have t1 : decide ((1048576 : Int) < (n : Int)) = false := decide_eq_false (by omega)
    by_cases ha0 : a = 0
    · have t2 : ((a : Int) == 0) = true := by rw [beq_iff_eq]; omega
      clear hbad hn2 ha0
      go_enter Tryd.func8, Tryd.ntmps8
      go_wp2_with fail
      refine (alive_any _ C).mono ?_; rintro e w1 ⟨rfl, hb⟩
      have B1 := Lib.hid hb
      have s1 := hb.size
      clear hb
      go_wp2_with fail
      refine (H1.out _ (by first | exact B1.out | exact B1.out.alloc s1 _)).mono ?_; rintro e w2 ⟨rfl, hb⟩
      have B2 := Lib.hid (B1.out.trans (hb.mono s1))
      have s2 := B2.out.size
      clear hb
      go_wp2
      go_ret
      exact ⟨rfl, B2.out.alloc s2 _⟩
    · have t2 : ((a : Int) == 0) = false := by rw [beq_eq_false_iff_ne]; omega
      obtain ⟨x, hx⟩ : ∃ x, a &&& (a - 1) = x := ⟨_, rfl⟩
      have t4 : bits BinOp.and IntKind.u64 (a : Int) ((a : Int) - 1) = (x : Int) := by
        rw [show (a : Int) - 1 = ((a - 1 : Nat) : Int) by omega, bits_and _ _ (by omega) (by omega), hx]
      have ha1 : 1 ≤ a := by omega
      by_cases hx0 : x = 0
      · have t5 : ((x : Int) != 0) = false := by rw [bne_eq_false_iff_eq]; omega
        have t3 : decide ((1024 : Int) < (a : Int)) = true := decide_eq_true (by
          rcases Nat.lt_or_ge 1024 a with y | y
          · omega
          · exact absurd ⟨(al_bits ha1 y).1 (hx.trans hx0), by omega⟩ hbad)
        clear hbad hn2 ha0 hx hx0
        go_enter Tryd.func8, Tryd.ntmps8
        go_wp2_with fail
        refine (alive_any _ C).mono ?_; rintro e w1 ⟨rfl, hb⟩
        have B1 := Lib.hid hb
        have s1 := hb.size
        clear hb
        go_wp2_with fail
        refine (H1.out _ (by first | exact B1.out | exact B1.out.alloc s1 _)).mono ?_; rintro e w2 ⟨rfl, hb⟩
        have B2 := Lib.hid (B1.out.trans (hb.mono s1))
        have s2 := B2.out.size
        clear hb
        go_wp2
        go_ret
        exact ⟨rfl, B2.out.alloc s2 _⟩
      · have t5 : ((x : Int) != 0) = true := by rw [bne_iff_ne]; omega
        clear hbad hn2 ha0 hx hx0
        go_enter Tryd.func8, Tryd.ntmps8
        go_wp2_with fail
        refine (alive_any _ C).mono ?_; rintro e w1 ⟨rfl, hb⟩
        have B1 := Lib.hid hb
        have s1 := hb.size
        clear hb
        go_wp2_with fail
        refine (H1.out _ (by first | exact B1.out | exact B1.out.alloc s1 _)).mono ?_; rintro e w2 ⟨rfl, hb⟩
        have B2 := Lib.hid (B1.out.trans (hb.mono s1))
        have s2 := B2.out.size
        clear hb
        go_wp2
        go_ret
        exact ⟨rfl, B2.out.alloc s2 _⟩
theorem u64_bd {n : Int} (h : (Lit.int .u64 n).wf = true) : 0 ≤ n ∧ n ≤ 18446744073709551615 := by
  simp [Lit.wf, IntKind.min, IntKind.max, IntKind.signed, IntKind.bits] at h; omega
theorem walk_of (w : World) (C : Cl w) (n : Int) (h1 : (Lit.int .u64 n).wf = true) (a : Int) (h2 : (Lit.int .u64 a).wf = true) :
    Calls Tryd.prog 8 #[.int .u64 n, .int .u64 a] w fun e w' => e = .returned (.bool true) ∧ Below w.heap.size w w' := by
  have b1 := u64_bd h1
  have b2 := u64_bd h2
  obtain ⟨n, rfl⟩ := Int.eq_ofNat_of_zero_le b1.1
  obtain ⟨a, rfl⟩ := Int.eq_ofNat_of_zero_le b2.1
  by_cases h : isAl a = true ∧ n ≤ 1048576
  · exact walk_good w C n a h.1 h.2
  · exact walk_bad w C n a (by omega) (by omega) h
end Go.Proofs.YthblggnjfmgonaaDoor.classRefuses
