/- The program's classes: units, For: contracts. -/
import Derived.Test.YthblggnjfmgonaaDoorClassB
namespace Go.Proofs.YthblggnjfmgonaaDoor
open Go.RowKit ClassMath
set_option linter.unusedVariables false

theorem al_p2 (a : Nat) : isAl a = (CalcMath.isP2 a && decide (a ≤ 1024)) := by
  rw [Bool.eq_iff_iff, Bool.and_eq_true, decide_eq_true_iff, CalcMath.isP2_iff]
  constructor
  · intro h
    refine ⟨?_, (isAl_pos h).2⟩
    rcases al_cases h with rfl | rfl | rfl | rfl | rfl | rfl | rfl | rfl | rfl | rfl | rfl
    · exact ⟨0, rfl⟩
    · exact ⟨1, rfl⟩
    · exact ⟨2, rfl⟩
    · exact ⟨3, rfl⟩
    · exact ⟨4, rfl⟩
    · exact ⟨5, rfl⟩
    · exact ⟨6, rfl⟩
    · exact ⟨7, rfl⟩
    · exact ⟨8, rfl⟩
    · exact ⟨9, rfl⟩
    · exact ⟨10, rfl⟩
  · rintro ⟨⟨k, rfl⟩, h⟩
    refine al_pow ?_
    rcases Nat.lt_or_ge 10 k with x | x
    · have := Nat.pow_le_pow_right (show 0 < 2 by decide) x
      omega
    · exact x
theorem units_k (n : Nat) (hn : n ≤ 1048576) (w : World) : Calls Tryd.prog 24 #[.int .u64 (n : Int), .int .u64 1024] w fun e w' => e = .returned (.tuple #[.int .i64 ((up n 1024 : Nat) : Int), .int .u64 ((up n 1024 * 1024 : Nat) : Int)]) ∧ w = w' := by
  have H := up_any n 1024 (by omega) (by decide) w
  have hv : CalcMath.upV n 1024 = up n 1024 * 1024 := by
    unfold CalcMath.upV CalcMath.upR up
    rw [if_pos ⟨by decide +kernel, by omega⟩]
  have he : CalcMath.upE n 1024 = 0 := by
    unfold CalcMath.upE CalcMath.upR
    rw [if_pos (by decide +kernel), if_pos (by omega)]
  rw [hv, he] at H
  have hk : up n 1024 ≤ 1025 := by unfold up; omega
  obtain ⟨k, hkk⟩ : ∃ k, up n 1024 = k := ⟨_, rfl⟩
  obtain ⟨m, hm⟩ : ∃ m, k * 1024 = m := ⟨_, rfl⟩
  rw [hkk, hm] at H
  rw [hkk, hm]
  rw [hkk] at hk
  have hmb : m ≤ 1049600 := by omega
  have q1 : Int.tdiv (m : Int) 1024 = (k : Int) := by
    rw [show (1024 : Int) = ((1024 : Nat) : Int) from rfl, ← Int.ofNat_tdiv, ← hm, Nat.mul_div_cancel _ (by decide)]
  have q2 : (m : Int) / 1024 = (k : Int) := by omega
  have w1 : IntKind.i64.wrap (k : Int) = (k : Int) := IntWalk.i64_in _ ⟨by omega, by omega⟩
  have HH := Lib.hid H
  clear H hv he hkk hm
  go_enter Tryd.func24, Tryd.ntmps24
  go_wp2_with fail
  refine HH.out.mono ?_; rintro e w1 ⟨rfl, rfl⟩
  go_wp2
  go_ret2
  exact ⟨rfl, rfl⟩
theorem units_s (n : Nat) (hn : n ≤ 1048576) (w : World) : Calls Tryd.prog 24 #[.int .u64 (n : Int), .int .u64 16384] w fun e w' => e = .returned (.tuple #[.int .i64 ((up n 16384 : Nat) : Int), .int .u64 ((up n 16384 * 16384 : Nat) : Int)]) ∧ w = w' := by
  have H := up_any n 16384 (by omega) (by decide) w
  have hv : CalcMath.upV n 16384 = up n 16384 * 16384 := by
    unfold CalcMath.upV CalcMath.upR up
    rw [if_pos ⟨by decide +kernel, by omega⟩]
  have he : CalcMath.upE n 16384 = 0 := by
    unfold CalcMath.upE CalcMath.upR
    rw [if_pos (by decide +kernel), if_pos (by omega)]
  rw [hv, he] at H
  have hk : up n 16384 ≤ 1025 := by unfold up; omega
  obtain ⟨k, hkk⟩ : ∃ k, up n 16384 = k := ⟨_, rfl⟩
  obtain ⟨m, hm⟩ : ∃ m, k * 16384 = m := ⟨_, rfl⟩
  rw [hkk, hm] at H
  rw [hkk, hm]
  rw [hkk] at hk
  have hmb : m ≤ 16793600 := by omega
  have q1 : Int.tdiv (m : Int) 16384 = (k : Int) := by
    rw [show (16384 : Int) = ((16384 : Nat) : Int) from rfl, ← Int.ofNat_tdiv, ← hm, Nat.mul_div_cancel _ (by decide)]
  have q2 : (m : Int) / 16384 = (k : Int) := by omega
  have w1 : IntKind.i64.wrap (k : Int) = (k : Int) := IntWalk.i64_in _ ⟨by omega, by omega⟩
  have HH := Lib.hid H
  clear H hv he hkk hm
  go_enter Tryd.func24, Tryd.ntmps24
  go_wp2_with fail
  refine HH.out.mono ?_; rintro e w1 ⟨rfl, rfl⟩
  go_wp2
  go_ret2
  exact ⟨rfl, rfl⟩
theorem pow2_at (a : Nat) (ha : a ≤ 18446744073709551615) (w : World) : Calls Tryd.prog 23 #[.int .u64 (a : Int)] w fun e w' => e = .returned (.bool (CalcMath.isP2 a)) ∧ w = w' :=
  (pow2_any (a : Int) (by omega) (by omega) w).mono fun e w' ⟨h1, h2⟩ => ⟨by rw [h1, Int.toNat_natCast], h2⟩
set_option maxRecDepth 100000 in
theorem for_bad {w : World} (n a : Nat) (hn : n ≤ 18446744073709551615) (ha : a ≤ 18446744073709551615) (hb : ¬ (isAl a = true ∧ n ≤ 1048576)) :
    Calls Tryd.prog 20 #[.int .u64 (n : Int), .int .u64 (a : Int)] w fun e w' => e = .returned (.tuple #[plV Pl.none, .int .i64 2]) ∧ Below w.heap.size w w' := by
  have pq := pow2_at a ha
  rw [al_p2] at hb
  obtain ⟨b, hbb⟩ : ∃ b, CalcMath.isP2 a = b := ⟨_, rfl⟩
  rw [hbb] at hb pq
  have HP := Lib.hid pq
  have hcase : (b = false) ∨ (b = true ∧ decide ((1024 : Int) < (a : Int)) = true) ∨ (b = true ∧ decide ((1024 : Int) < (a : Int)) = false ∧ decide ((1048576 : Int) < (n : Int)) = true) := by
    cases b
    · exact Or.inl rfl
    · by_cases h1 : 1024 < a
      · exact Or.inr (Or.inl ⟨rfl, decide_eq_true (by omega)⟩)
      · refine Or.inr (Or.inr ⟨rfl, decide_eq_false (by omega), decide_eq_true ?_⟩)
        rcases Nat.lt_or_ge 1048576 n with x | x
        · omega
        · exact absurd ⟨by simp; omega, x⟩ hb
  clear hb pq hbb
  rcases hcase with rfl | ⟨rfl, t1⟩ | ⟨rfl, t1, t2⟩
  all_goals
    go_enter Tryd.func20, Tryd.ntmps20
    go_wp2_with fail
    refine (HP.out _).mono ?_; rintro e w1 ⟨rfl, hw⟩
    have K : Hid (Blk w1 w.heap.size 39 #[.int .i64 0, .int .i64 0, .int .i64 0, .int .u64 0]) := by rw [← hw]; exact Lib.hid (Blk.new _ _ _)
    have B := Lib.hid (show Below w.heap.size w w1 by rw [← hw]; exact (Below.refl _ w).alloc (Nat.le_refl _) _)
    clear hw
    have f0' := K.out.frozen 0
    have f1' := K.out.frozen 1
    have f2' := K.out.frozen 2
    have f3' := K.out.frozen 3
    have x0 : w1.cell? ⟨w.heap.size, 0, none⟩ = some (.int .i64 0) := K.out.cell 0
    have x1 : w1.cell? ⟨w.heap.size, 1, none⟩ = some (.int .i64 0) := K.out.cell 1
    have x2 : w1.cell? ⟨w.heap.size, 2, none⟩ = some (.int .i64 0) := K.out.cell 2
    have x3 : w1.cell? ⟨w.heap.size, 3, none⟩ = some (.int .u64 0) := K.out.cell 3
    go_wp2
    have KB := put4 K.out (.int .i64 0) (.int .i64 0) (.int .i64 0) (.int .u64 0)
    have y0 := KB.cell 0
    have y1 := KB.cell 1
    have y2 := KB.cell 2
    have y3 := KB.cell 3
    refine bodyPost_ret (v := .tuple #[plV Pl.none, .int .i64 2]) ?_ rfl ⟨rfl, below4 B.out _ _ _ _ (Nat.le_refl _)⟩
    simp [results, Tryd.results20, go_sem, y0, y1, y2, y3, plV, Pl.none]
end Go.Proofs.YthblggnjfmgonaaDoor
