/- The law ClassWaste, walked. -/
import Derived.Test.YthblggnjfmgonaaDoorAliveC
namespace Go.Proofs.YthblggnjfmgonaaDoor.classWaste
open Go.RowKit ClassMath
set_option linter.unusedVariables false

theorem u32_bd {n : Int} (h : (Lit.int .u32 n).wf = true) : 0 ≤ n ∧ n ≤ 4294967295 := by
  simp [Lit.wf, IntKind.min, IntKind.max, IntKind.signed, IntKind.bits] at h; omega
def Doubling (w : World) (bp : Nat) (P : Pl) (p : Value) (wr : World) : Prop :=
  ∃ i q : Nat, i ≤ 5 ∧ q = 2 ^ i ∧ p = .int .u64 (q : Int) ∧ Blk wr bp 39 (plC P) ∧ Below w.heap.size w wr
set_option maxHeartbeats 2000000 in
theorem walk_of (w : World) (C : Cl w) (n : Int) (h1 : (Lit.int .u32 n).wf = true) :
    Calls Tryd.prog 9 #[.int .u32 n] w fun e w' => e = .returned (.bool true) ∧ Below w.heap.size w w' := by
  have b1 := u32_bd h1
  obtain ⟨n, rfl⟩ := Int.eq_ofNat_of_zero_le b1.1
  have hnb : n ≤ 4294967295 := by omega
  obtain ⟨m, hm⟩ : ∃ m, n % 1048577 = m := ⟨_, rfl⟩
  have hm0 : m ≤ 1048576 := by omega
  have hmod : Int.tmod (n : Int) 1048577 = (m : Int) := by rw [← hm]; exact (Int.ofNat_tmod _ _).symm
  have hmod2 : (n : Int) % 1048577 = (m : Int) := by omega
  obtain ⟨k, hk⟩ : ∃ k, max m 1 = k := ⟨_, rfl⟩
  have hk1 : 1 ≤ k := by omega
  have hk2 : k ≤ 1048576 := by omega
  have hmax : ∀ w, (Builtin.max_ #[22, 22] 22 #[.int .u64 (m : Int), .int .u64 1]).run Tryd.prog w = .ok (.int .u64 (k : Int)) w := fun w => by
    rw [run_max_int2]
    have : (if (1 : Int) > (m : Int) then (1 : Int) else (m : Int)) = (k : Int) := by split <;> omega
    rw [this]
  obtain ⟨t, ht⟩ : ∃ t, max 16 (2 * k) = t := ⟨_, rfl⟩
  have hmax2 : ∀ w, (Builtin.max_ #[22, 22] 22 #[.int .u64 16, .int .u64 (2 * (k : Int))]).run Tryd.prog w = .ok (.int .u64 (t : Int)) w := fun w => by
    rw [run_max_int2]
    have : (if (2 * (k : Int)) > (16 : Int) then (2 * (k : Int)) else (16 : Int)) = (t : Int) := by split <;> omega
    rw [this]
  have hw := forN_waste hk1 hk2
  rw [ht] at hw
  have p1 := C.for_ k 1 (by omega) (by decide)
  rw [forN_ok one_al hk2] at p1
  have p2 : Hid (∀ q, isAl q = true → q ≤ 16 → MadeBy w 20 #[.int .u64 (k : Int), .int .u64 (q : Int)] (.tuple #[plV (forN k 1).1, .int .i64 0])) := Lib.hid fun q hq hq2 => by
    have := C.for_ k q (by omega) (by omega)
    rwa [forN_ok hq hk2, forN_16 hq hq2 hk2] at this
  obtain ⟨⟨c, sl, sg, us⟩, hp⟩ : ∃ p, (forN k 1).1 = p := ⟨_, rfl⟩
  rw [hp] at p1 p2 hw
  simp only [plV] at p1 p2 hw
  have P1 := Lib.hid p1
  have t1 : decide (t < us) = false := decide_eq_false (by omega)
  clear h1 b1 hm hk p1 hp ht hw
  go_enter Tryd.func9, Tryd.ntmps9
  go_wp2_with fail
  refine (alive_any _ C).mono ?_; rintro e w1 ⟨rfl, hb⟩
  have B1 := Lib.hid hb
  have s1 := hb.size
  clear hb
  go_wp2_with fail
  refine (P1.out _ (by first | exact B1.out | exact B1.out.alloc s1 _)).mono ?_; rintro e w2 ⟨rfl, hb⟩
  have B2 := Lib.hid (B1.out.trans (hb.mono s1))
  have s2 := B2.out.size
  obtain ⟨bp, hbp⟩ : ∃ bp, w2.heap.size = bp := ⟨_, rfl⟩
  have KP : Hid (Blk (w2.alloc (.cells #[.int .i64 c, .int .i64 (sl : Int), .int .i64 (sg : Int), .int .u64 (us : Int)] 39)) bp 39 (plC ⟨c, sl, sg, us⟩)) := Lib.hid (by rw [← hbp]; exact Blk.new w2 _ _)
  clear hb
  go_wp2
  clear hmax hmax2 hmod hmod2 t1
  go_loopw [6] (fun p wr => Doubling w bp ⟨c, sl, sg, us⟩ p wr) (fun p _ => 64 - (intOf p).toNat)
  case atStart => exact ⟨0, 1, by omega, rfl, rfl, KP.out, B2.out.alloc s2 _⟩
  case round =>
    obtain ⟨i, q, hi, hq, rfl, hkp, hb⟩ := hrel
    have HQ := Lib.hid hq; have K3 := Lib.hid hkp; have B3 := Lib.hid hb
    have sr := hb.size
    have hq1 : 1 ≤ q := by rw [hq]; exact Nat.one_le_two_pow
    have hq2 : q ≤ 32 := by rw [hq]; exact Nat.le_trans (Nat.pow_le_pow_right (show 0 < 2 by decide) hi) (by decide)
    have hq3 : i < 5 ↔ q ≤ 16 := by
      rw [hq]
      constructor
      · intro h; exact Nat.le_trans (Nat.pow_le_pow_right (show 0 < 2 by decide) (show i ≤ 4 by omega)) (by decide)
      · intro h
        rcases Nat.lt_or_ge i 5 with x | x
        · exact x
        · have := Nat.pow_le_pow_right (show 0 < 2 by decide) x
          omega
    clear hkp hb hq
    by_cases hlt : q ≤ 16
    · have t2 : decide ((q : Int) ≤ 16) = true := decide_eq_true (by omega)
      have hi2 := hq3.2 hlt
      have HM := Lib.hid (p2.out q (by rw [HQ.out]; exact al_pow (by omega)) hlt)
      have HQ2 : Hid (q * 2 = 2 ^ (i + 1)) := Lib.hid (by rw [HQ.out, Nat.pow_succ])
      clear hq3
      go_wp2_with fail
      refine (HM.out _ (by first | exact B3.out | exact B3.out.alloc sr _)).mono ?_; rintro e w4 ⟨rfl, hb⟩
      have B4 := Lib.hid (B3.out.trans (hb.mono sr))
      have s4 := B4.out.size
      have K4 := (K3.out.grew hb)
      have K5 := K4.alloc (.cells #[.int .i64 c, .int .i64 (sl : Int), .int .i64 (sg : Int), .int .u64 (us : Int)] 39)
      have k0 := K5.cell 0
      have k1 := K5.cell 1
      have k2 := K5.cell 2
      have k3 := K5.cell 3
      simp only [plC, List.getElem?_toArray, List.getElem?_cons_succ, List.getElem?_cons_zero] at k0 k1 k2 k3
      have HK := Lib.hid K5
      clear hb K4 K5
      go_wp2
      go_roundw
      case rel => exact ⟨i + 1, q * 2, by omega, HQ2.out, by go_num, HK.out, B4.out.alloc s4 _⟩
      case measure => simp [intOf]; omega
    · have t2 : decide ((q : Int) ≤ 16) = false := decide_eq_false (by omega)
      go_wp2
      go_ret
      exact ⟨rfl, B3.out⟩
end Go.Proofs.YthblggnjfmgonaaDoor.classWaste
