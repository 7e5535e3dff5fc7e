/- The program's classes: first, Of: contracts. -/
import Derived.Test.YthblggnjfmgonaaDoorClassA
namespace Go.Proofs.YthblggnjfmgonaaDoor
open Go.RowKit ClassMath
set_option linter.unusedVariables false

theorem tab_at (c : Nat) (hc : c < 12) (w : World) : (Instr.index 51 (.agg #[.int .u64 16, .int .u64 32, .int .u64 48, .int .u64 64, .int .u64 96, .int .u64 128, .int .u64 192, .int .u64 256, .int .u64 384, .int .u64 512, .int .u64 768, .int .u64 1024]) (.int .i64 (c : Int))).run Tryd.prog w = .ok (.int .u64 ((sizeAt c : Nat) : Int)) w := by
  rcases c with _ | _ | _ | _ | _ | _ | _ | _ | _ | _ | _ | _ | c
  all_goals first | omega | kernel_rfl
theorem tab_cells {w : World} (L : Lay w) : w.cell? ⟨0, 0, none⟩ = some (.int .u64 16) ∧ w.cell? ⟨0, 1, none⟩ = some (.int .u64 32) ∧ w.cell? ⟨0, 2, none⟩ = some (.int .u64 48) ∧ w.cell? ⟨0, 3, none⟩ = some (.int .u64 64) ∧ w.cell? ⟨0, 4, none⟩ = some (.int .u64 96) ∧ w.cell? ⟨0, 5, none⟩ = some (.int .u64 128) ∧
    w.cell? ⟨0, 6, none⟩ = some (.int .u64 192) ∧ w.cell? ⟨0, 7, none⟩ = some (.int .u64 256) ∧ w.cell? ⟨0, 8, none⟩ = some (.int .u64 384) ∧ w.cell? ⟨0, 9, none⟩ = some (.int .u64 512) ∧ w.cell? ⟨0, 10, none⟩ = some (.int .u64 768) ∧ w.cell? ⟨0, 11, none⟩ = some (.int .u64 1024) :=
  ⟨L 0 (by decide), L 1 (by decide), L 2 (by decide), L 3 (by decide), L 4 (by decide), L 5 (by decide), L 6 (by decide), L 7 (by decide), L 8 (by decide), L 9 (by decide), L 10 (by decide), L 11 (by decide)⟩
theorem first_any {w : World} (L : Lay w) (n a : Nat) (hn : n ≤ 18446744073709551615) (ha : 1 ≤ a) (ha2 : a ≤ 18446744073709551615) : Calls Tryd.prog 22 #[.int .u64 (n : Int), .int .u64 (a : Int)] w fun e w' => e = .returned (.tuple #[.int .i64 ((ofC (fitN n a) : Nat) : Int), .bool (fitN n a).isSome]) ∧ Below w.heap.size w w' := by
  obtain ⟨d0, d1, d2, d3, d4, d5, d6, d7, d8, d9, d10, d11⟩ := tab_cells L
  have HIX := Lib.hid tab_at
  obtain ⟨k, hk⟩ : ∃ k, ofC (fitN n a) = k := ⟨_, rfl⟩
  obtain ⟨y, hy⟩ : ∃ y, (fitN n a).isSome = y := ⟨_, rfl⟩
  have HK := Lib.hid hk; have HY := Lib.hid hy
  have z0 : ((a : Int) == 0) = false := by rw [beq_eq_false_iff_ne]; omega
  have z1 : ¬ a = 0 := by omega
  rw [hk, hy]
  clear hk hy
  go_enter Tryd.func22, Tryd.ntmps22
  go_wp2
  clear d0 d1 d2 d3 d4 d5 d6 d7 d8 d9 d10 d11
  go_loop [9] (fun i => ∃ c : Nat, c ≤ 12 ∧ i = .int .i64 (c : Int) ∧ ∀ d, d < c → decide (n ≤ sizeAt d ∧ sizeAt d % a = 0) = false) (fun i => 12 - (intOf i).toNat)
  case atStart => exact ⟨0, by omega, rfl, fun d hd => by omega⟩
  case round =>
    obtain ⟨c, hc, rfl, hno⟩ := hrel
    have NO := Lib.hid hno
    clear hno
    by_cases hlt : c < 12
    · have hcell := HIX.out c hlt
      have t0 : decide ((c : Int) < 12) = true := decide_eq_true (by omega)
      have p1 : (0 : Int) ≤ (c : Int) := by omega
      have p2 : (c : Int) < 12 := by omega
      obtain ⟨b1, b2⟩ := size_bounds hlt
      obtain ⟨s, hss⟩ : ∃ s, sizeAt c = s := ⟨_, rfl⟩
      have HSS := Lib.hid hss
      rw [hss] at hcell b1 b2
      clear hss
      obtain ⟨r, hr⟩ : ∃ r, s % a = r := ⟨_, rfl⟩
      have m3 : Int.tmod (s : Int) (a : Int) = (r : Int) := by rw [← hr]; exact (Int.ofNat_tmod _ _).symm
      have HR := Lib.hid hr
      clear hr
      have hcase : (decide (n ≤ s) = true ∧ ((r : Int) == 0) = true ∧ (n ≤ s ∧ r = 0)) ∨ (decide (n ≤ s) = true ∧ ((r : Int) == 0) = false ∧ ¬ (n ≤ s ∧ r = 0)) ∨ (decide (n ≤ s) = false ∧ ((r : Int) == 0) = false ∧ ¬ (n ≤ s ∧ r = 0)) ∨ (decide (n ≤ s) = false ∧ ((r : Int) == 0) = true ∧ ¬ (n ≤ s ∧ r = 0)) := by
        by_cases h1 : n ≤ s
        · by_cases h2 : r = 0
          · exact Or.inl ⟨decide_eq_true h1, by rw [h2]; rfl, h1, h2⟩
          · exact Or.inr (Or.inl ⟨decide_eq_true h1, by rw [beq_eq_false_iff_ne]; omega, fun h => h2 h.2⟩)
        · by_cases h2 : r = 0
          · exact Or.inr (Or.inr (Or.inr ⟨decide_eq_false h1, by rw [h2]; rfl, fun h => h1 h.1⟩))
          · exact Or.inr (Or.inr (Or.inl ⟨decide_eq_false h1, by rw [beq_eq_false_iff_ne]; omega, fun h => h1 h.1⟩))
      have hyes : n ≤ s ∧ r = 0 → fitN n a = some c := fun h => firstC_of hlt (by rw [HSS.out]; exact decide_eq_true ⟨h.1, by rw [HR.out]; exact h.2⟩) NO.out
      have hnot : ¬ (n ≤ s ∧ r = 0) → ∀ d, d < c + 1 → decide (n ≤ sizeAt d ∧ sizeAt d % a = 0) = false := fun h d hd => by
        rcases Nat.lt_or_ge d c with h' | h'
        · exact NO.out d h'
        · obtain rfl : d = c := by omega
          rw [HSS.out, HR.out]; exact decide_eq_false h
      have HYES := Lib.hid hyes; have HNOT := Lib.hid hnot
      clear hyes hnot
      rcases hcase with ⟨t1, t2, hh⟩ | hcase
      · have hof := HYES.out hh
        have e1 := HK.out
        have e2 := HY.out
        rw [hof] at e1 e2
        obtain rfl : c = k := e1
        obtain rfl : true = y := e2
        clear hof hh
        go_wp2
        go_ret2
        exact ⟨rfl, Below.refl _ _⟩
      · rcases hcase with ⟨t1, t2, hh⟩ | ⟨t1, t2, hh⟩ | ⟨t1, t2, hh⟩
        all_goals
          have HN := Lib.hid (HNOT.out hh)
          clear hh
          go_wp2
          go_round
          case rel => exact ⟨c + 1, by omega, by go_num, HN.out⟩
          case measure => simp [intOf]; omega
    · obtain rfl : c = 12 := by omega
      have t0 : decide (((12 : Nat) : Int) < 12) = false := by decide
      have hof : fitN n a = none := firstC_no NO.out
      have e1 := HK.out
      have e2 := HY.out
      rw [hof] at e1 e2
      obtain rfl : 0 = k := e1
      obtain rfl : false = y := e2
      clear hof
      go_wp2
      go_ret2
      exact ⟨rfl, Below.refl _ _⟩
theorem fitN_one (n : Nat) : fitN n 1 = ofN n := by
  unfold fitN ofN
  congr 1
  funext s
  simp [Nat.mod_one]
theorem of_any {w : World} (L : Lay w) (n : Nat) (hn : n ≤ 18446744073709551615) : Calls Tryd.prog 14 #[.int .u64 (n : Int)] w fun e w' => e = .returned (.tuple #[.int .i64 ((ofC (ofN n) : Nat) : Int), .int .i64 (if (ofN n).isSome then 0 else 2)]) ∧ Below w.heap.size w w' := by
  have H := first_any L n 1 hn (by decide) (by decide)
  rw [fitN_one] at H
  have hz : (ofN n).isSome = false → ofC (ofN n) = 0 := by intro h; cases hh : ofN n with
    | none => rfl
    | some x => rw [hh] at h; cases h
  obtain ⟨k, hk⟩ : ∃ k, ofC (ofN n) = k := ⟨_, rfl⟩
  obtain ⟨y, hy⟩ : ∃ y, (ofN n).isSome = y := ⟨_, rfl⟩
  rw [hk, hy] at H hz
  rw [hk, hy]
  have HH := Lib.hid H
  clear H hk hy
  cases y
  · obtain rfl := hz rfl
    clear hz
    go_enter Tryd.func14, Tryd.ntmps14
    go_wp2_with fail
    refine HH.out.mono ?_; rintro e w1 ⟨rfl, hb⟩
    have B := Lib.hid hb
    clear hb
    go_wp2
    go_ret2
    exact ⟨rfl, B.out⟩
  · clear hz
    go_enter Tryd.func14, Tryd.ntmps14
    go_wp2_with fail
    refine HH.out.mono ?_; rintro e w1 ⟨rfl, hb⟩
    have B := Lib.hid hb
    clear hb
    go_wp2
    go_ret2
    exact ⟨rfl, B.out⟩
end Go.Proofs.YthblggnjfmgonaaDoor
