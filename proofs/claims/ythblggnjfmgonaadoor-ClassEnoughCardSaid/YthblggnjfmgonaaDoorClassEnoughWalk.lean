/- The law ClassEnough, walked. -/
import Derived.Test.YthblggnjfmgonaaDoorAliveC
namespace Go.Proofs.YthblggnjfmgonaaDoor.classEnough
open Go.RowKit ClassMath
set_option linter.unusedVariables false

theorem u32_bd {n : Int} (h : (Lit.int .u32 n).wf = true) : 0 ≤ n ∧ n ≤ 4294967295 := by
  simp [Lit.wf, IntKind.min, IntKind.max, IntKind.signed, IntKind.bits] at h; omega
theorem u8_bd {n : Int} (h : (Lit.int .u8 n).wf = true) : 0 ≤ n ∧ n ≤ 255 := by
  simp [Lit.wf, IntKind.min, IntKind.max, IntKind.signed, IntKind.bits] at h; omega
theorem shl_nat (y P : Nat) (hP : 2 ^ y = P) (hy : y ≤ 10) : IntKind.u64.wrap ((2 : Int) ^ y) = (P : Int) := by
  have e : ((2 : Int) ^ y) = (P : Int) := by rw [← hP]; push_cast; rfl
  have : P ≤ 1024 := by rw [← hP]; exact Nat.le_trans (Nat.pow_le_pow_right (show 0 < 2 by decide) hy) (by decide)
  rw [e, u64_in _ ⟨by omega, by omega⟩]
/-- What a plan is like, in its three ways. -/
def Way (a P : Nat) (p : Pl) : Prop :=
  (∃ k : Nat, p = ⟨(k : Int), slicesAt k, 0, sizeAt k⟩ ∧ k < 12 ∧ a ≤ sizeAt k ∧ sizeAt k % P = 0 ∧ ∀ d, d < k → ¬ (a ≤ sizeAt d ∧ sizeAt d % P = 0)) ∨
  (∃ u us : Nat, p = ⟨-1, u, 0, us⟩ ∧ u * 1024 = us ∧ a ≤ us ∧ us - a < 1024 ∧ 1024 < a ∧ 1 ≤ u ∧ u < 16) ∨
  (∃ u us : Nat, p = ⟨-1, 0, u, us⟩ ∧ u * 16384 = us ∧ a ≤ us ∧ us - a < 16384 ∧ 15360 < a ∧ 1 ≤ u ∧ u ≤ 64)
theorem way {a P : Nat} (hal : isAl P = true) (h : a ≤ 1048576) : Way a P (forN a P).1 := by
  rcases Nat.lt_or_ge 1024 a with h3 | h3
  · rcases Nat.lt_or_ge 15360 a with h4 | h4
    · rw [forN_great hal h4 h]
      exact Or.inr (Or.inr ⟨_, _, rfl, rfl, by simp only [up]; omega, by simp only [up]; omega, h4, by simp only [up]; omega, by simp only [up]; omega⟩)
    · rw [forN_mid hal h3 h4]
      exact Or.inr (Or.inl ⟨_, _, rfl, rfl, by simp only [up]; omega, by simp only [up]; omega, h3, by simp only [up]; omega, by simp only [up]; omega⟩)
  · obtain ⟨c, e, hc, h5, h6, h7⟩ := forN_small hal h3
    rw [e]
    exact Or.inl ⟨c, rfl, hc, h5, h6, h7⟩
def Lesser (w : World) (k : Nat) (p : Value) (wr : World) : Prop :=
  ∃ d : Nat, d ≤ k ∧ p = .int .i64 (d : Int) ∧ Below w.heap.size w wr
set_option maxHeartbeats 2000000 in
theorem walk_of (w : World) (C : Cl w) (n : Int) (h1 : (Lit.int .u32 n).wf = true) (bit : Int) (h3 : (Lit.int .u8 bit).wf = true) :
    Calls Tryd.prog 5 #[.int .u32 n, .int .u8 bit] w fun e w' => e = .returned (.bool true) ∧ Below w.heap.size w w' := by
  have b1 := u32_bd h1
  have b3 := u8_bd h3
  obtain ⟨n, rfl⟩ := Int.eq_ofNat_of_zero_le b1.1
  obtain ⟨bit, rfl⟩ := Int.eq_ofNat_of_zero_le b3.1
  have hnb : n ≤ 4294967295 := by omega
  have hbb : bit ≤ 255 := by omega
  obtain ⟨a, ha⟩ : ∃ a, n % 1048577 = a := ⟨_, rfl⟩
  have ha0 : a ≤ 1048576 := by omega
  have hm1 : Int.tmod (n : Int) 1048577 = (a : Int) := by rw [← ha]; exact (Int.ofNat_tmod _ _).symm
  have hm2 : (n : Int) % 1048577 = (a : Int) := by omega
  obtain ⟨y, hy⟩ : ∃ y, bit % 11 = y := ⟨_, rfl⟩
  have hy1 : y ≤ 10 := by omega
  have hm5 : Int.tmod (bit : Int) 11 = (y : Int) := by rw [← hy]; exact (Int.ofNat_tmod _ _).symm
  have hm6 : (bit : Int) % 11 = (y : Int) := by omega
  obtain ⟨P, hP⟩ : ∃ P, 2 ^ y = P := ⟨_, rfl⟩
  have hsh := shl_nat y P hP hy1
  have hsh2 : IntKind.u64.wrap ((2 : Int) ^ (bit % 11)) = (P : Int) := by rw [hy]; exact hsh
  have hal : isAl P = true := by rw [← hP]; exact al_pow hy1
  have hPb := isAl_pos hal
  have hP0 : ¬ P = 0 := by omega
  have hPz : ((P : Int) == 0) = false := by
    have : ¬ (P : Int) = 0 := by omega
    simpa using this
  have p1 := C.for_ a P (by omega) (by omega)
  rw [forN_ok hal ha0] at p1
  have q1 := forN_enough hal ha0
  have q2 := way hal ha0
  obtain ⟨p, hp⟩ : ∃ p, (forN a P).1 = p := ⟨_, rfl⟩
  rw [hp] at p1 q1 q2
  clear h1 h3 b1 b3 ha hy hP hal hp
  rcases q2 with ⟨k, rfl, hk, g1, g2, g3⟩ | ⟨u, us, rfl, g1, g2, g3, g4, g5, g6⟩ | ⟨u, us, rfl, g1, g2, g3, g4, g5, g6⟩
  · have pz := C.size k hk
    have G3 := Lib.hid g3
    obtain ⟨sz, hs⟩ : ∃ x, sizeAt k = x := ⟨_, rfl⟩
    obtain ⟨sl, hl⟩ : ∃ x, slicesAt k = x := ⟨_, rfl⟩
    rw [hs] at p1 q1 g1 g2 pz
    rw [hl] at p1
    simp only [plV] at p1 q1
    obtain ⟨q3, q4, q5, q6⟩ := q1
    have m1 : Int.tmod (sz : Int) 16 = 0 := by
      have : Int.tmod (sz : Int) 16 = ((sz % 16 : Nat) : Int) := (Int.ofNat_tmod _ _).symm
      rw [this, q5]; rfl
    have m2 : (sz : Int) % 16 = 0 := by omega
    have m3 : Int.tmod (sz : Int) (P : Int) = 0 := by
      have : Int.tmod (sz : Int) (P : Int) = ((sz % P : Nat) : Int) := (Int.ofNat_tmod _ _).symm
      rw [this, g2]; rfl
    have P1 := Lib.hid p1; have PZ := Lib.hid pz
    have t1 : decide (sz < a) = false := decide_eq_false (by omega)
    clear p1 pz hs hl g3 g2 q5
    go_enter Tryd.func5, Tryd.ntmps5
    go_wp2_with fail
    refine (alive_any _ C).mono ?_; rintro e w1 ⟨rfl, hb⟩
    have B1 := Lib.hid hb
    have s1 := hb.size
    clear hb
    go_wp2_with fail
    clear hm1 hm2 hm5 hm6 hsh hsh2
    refine (P1.out _ (by first | exact B1.out | exact B1.out.alloc s1 _)).mono ?_; rintro e w2 ⟨rfl, hb⟩
    have B2 := Lib.hid (B1.out.trans (hb.mono s1))
    have s2 := B2.out.size
    obtain ⟨bp, hbp⟩ : ∃ bp, w2.heap.size = bp := ⟨_, rfl⟩
    clear hb
    go_wp2_with fail
    refine (PZ.out _ (by first | exact B2.out | exact B2.out.alloc s2 _)).mono ?_; rintro e w3 ⟨rfl, hb⟩
    have B3 := Lib.hid ((B2.out.alloc s2 _).trans (hb.mono (Nat.le_trans s2 (by simp))))
    have s3 := B3.out.size
    have K3 := (Blk.new w2 39 #[.int .i64 (k : Int), .int .i64 (sl : Int), .int .i64 0, .int .u64 (sz : Int)]).grew hb
    have x0 := K3.cell 0
    have x2 := K3.cell 2
    have x3 := K3.cell 3
    simp only [List.getElem?_toArray, List.getElem?_cons_succ, List.getElem?_cons_zero, hbp] at x0 x2 x3
    clear hb K3
    go_wp2
    clear x0 x2 x3 m1 m2 m3
    go_loopw [78] (fun p wr => Lesser w k p wr) (fun p _ => k - (intOf p).toNat)
    case atStart => exact ⟨0, by omega, rfl, B3.out⟩
    case round =>
      obtain ⟨d, hd, rfl, hb⟩ := hrel
      have BR := Lib.hid hb
      have sr := hb.size
      clear hb
      by_cases hdk : d < k
      · have t2 : decide ((d : Int) < (k : Int)) = true := decide_eq_true (by omega)
        have t3 : decide (d < k) = true := decide_eq_true hdk
        have pd := C.size d (by omega)
        have hno := G3.out d hdk
        obtain ⟨sd, hsd⟩ : ∃ x, sizeAt d = x := ⟨_, rfl⟩
        have hsb : sd ≤ 1024 := by rw [← hsd]; exact (size_bounds (by omega)).2
        rw [hsd] at pd hno
        obtain ⟨r, hr⟩ : ∃ r, sd % P = r := ⟨_, rfl⟩
        have m3 : Int.tmod (sd : Int) (P : Int) = (r : Int) := by rw [← hr]; exact (Int.ofNat_tmod _ _).symm
        rw [hr] at hno
        have PD := Lib.hid pd
        clear pd hsd hr
        go_wp2_with fail
        refine (PD.out _ (by first | exact BR.out | exact BR.out.alloc sr _)).mono ?_; rintro e w5 ⟨rfl, hb⟩
        have B5 := Lib.hid (BR.out.trans (hb.mono sr))
        clear hb
        by_cases hge : a ≤ sd
        · have t4 : decide (a ≤ sd) = true := decide_eq_true hge
          have hr0 : ¬ r = 0 := fun h => hno ⟨hge, h⟩
          have t5 : ((r : Int) == 0) = false := by
            have : ¬ (r : Int) = 0 := by omega
            simpa using this
          clear hno
          go_wp2
          go_roundw
          case rel => exact ⟨d + 1, by omega, by go_num, B5.out⟩
          case measure => simp [intOf]; omega
        · have t4 : decide (a ≤ sd) = false := decide_eq_false hge
          clear hno
          go_wp2
          go_roundw
          case rel => exact ⟨d + 1, by omega, by go_num, B5.out⟩
          case measure => simp [intOf]; omega
      · have t2 : decide ((d : Int) < (k : Int)) = false := decide_eq_false (by omega)
        have t3 : decide (d < k) = false := decide_eq_false hdk
        go_wp2
        go_ret
        exact ⟨rfl, BR.out⟩
  · simp only [plV] at p1 q1
    obtain ⟨q3, q4, q5, q6⟩ := q1
    have m1 : Int.tmod (us : Int) 16 = 0 := by
      have : Int.tmod (us : Int) 16 = ((us % 16 : Nat) : Int) := (Int.ofNat_tmod _ _).symm
      rw [this, q5]; rfl
    have m2 : (us : Int) % 16 = 0 := by omega
    have m4 : (u : Int) * 1024 = (us : Int) := by omega
    have t6 : decide ((u : Int) < 16) = true := decide_eq_true (by omega)
    have t7 : decide ((1024 : Int) < (a : Int)) = true := decide_eq_true (by omega)
    have P1 := Lib.hid p1
    have t1 : decide (us < a) = false := decide_eq_false (by omega)
    clear p1 q5 g1
    go_enter Tryd.func5, Tryd.ntmps5
    go_wp2_with fail
    refine (alive_any _ C).mono ?_; rintro e w1 ⟨rfl, hb⟩
    have B1 := Lib.hid hb
    have s1 := hb.size
    clear hb
    go_wp2_with fail
    clear hm1 hm2 hm5 hm6 hsh hsh2
    refine (P1.out _ (by first | exact B1.out | exact B1.out.alloc s1 _)).mono ?_; rintro e w2 ⟨rfl, hb⟩
    have B2 := Lib.hid (B1.out.trans (hb.mono s1))
    have s2 := B2.out.size
    clear hb
    go_wp2
    go_ret
    exact ⟨rfl, B2.out.alloc s2 _⟩
  · simp only [plV] at p1 q1
    obtain ⟨q3, q4, q5, q6⟩ := q1
    have m1 : Int.tmod (us : Int) 16 = 0 := by
      have : Int.tmod (us : Int) 16 = ((us % 16 : Nat) : Int) := (Int.ofNat_tmod _ _).symm
      rw [this, q5]; rfl
    have m2 : (us : Int) % 16 = 0 := by omega
    have m4 : (u : Int) * 16384 = (us : Int) := by omega
    have t7 : decide ((15360 : Int) < (a : Int)) = true := decide_eq_true (by omega)
    have P1 := Lib.hid p1
    have t1 : decide (us < a) = false := decide_eq_false (by omega)
    clear p1 q5 g1
    go_enter Tryd.func5, Tryd.ntmps5
    go_wp2_with fail
    refine (alive_any _ C).mono ?_; rintro e w1 ⟨rfl, hb⟩
    have B1 := Lib.hid hb
    have s1 := hb.size
    clear hb
    go_wp2_with fail
    clear hm1 hm2 hm5 hm6 hsh hsh2
    refine (P1.out _ (by first | exact B1.out | exact B1.out.alloc s1 _)).mono ?_; rintro e w2 ⟨rfl, hb⟩
    have B2 := Lib.hid (B1.out.trans (hb.mono s1))
    have s2 := B2.out.size
    clear hb
    go_wp2
    go_ret
    exact ⟨rfl, B2.out.alloc s2 _⟩
end Go.Proofs.YthblggnjfmgonaaDoor.classEnough
