/- The program's classes: Size, Slices, Blocks: contracts, at a world in which the table of sizes reads as start-up lays it. -/
import Derived.Test.YthblggnjfmgonaaDoorClassCl
import Derived.Test.YthblggnjfmgonaaDoorUp
namespace Go.Proofs.YthblggnjfmgonaaDoor
open Go.RowKit ClassMath
set_option linter.unusedVariables false

/-- The program's table of sizes. -/
def Lay (w : World) : Prop := ∀ j, j < 12 → w.cell? ⟨0, j, none⟩ = some (.int .u64 ((sizeAt j : Nat) : Int))
theorem Lay.lt {w : World} (h : Lay w) : 0 < w.heap.size := World.block_lt_of_cell? w _ (h 0 (by decide))
theorem Lay.below {w w' : World} (h : Lay w) (hb : Below w.heap.size w w') : Lay w' := fun j hj => (hb.cell (p := ⟨0, j, none⟩) h.lt).trans (h j hj)
theorem size_ok {w : World} (L : Lay w) (c : Nat) (hc : c < 12) : Calls Tryd.prog 11 #[.int .i64 (c : Int)] w fun e w' => e = .returned (.tuple #[.int .u64 ((sizeAt c : Nat) : Int), .int .i64 0]) ∧ Below w.heap.size w w' := by
  have hcell := L c hc
  obtain ⟨s, hs⟩ : ∃ s, sizeAt c = s := ⟨_, rfl⟩
  rw [hs] at hcell ⊢
  have t1 : decide ((c : Int) < 0) = false := decide_eq_false (by omega)
  have t2 : decide ((12 : Int) ≤ (c : Int)) = false := decide_eq_false (by omega)
  have p1 : (0 : Int) ≤ (c : Int) := by omega
  have p2 : (c : Int) < 12 := by omega
  clear hs
  go_enter Tryd.func11, Tryd.ntmps11
  go_wp2
  go_ret2
  exact ⟨rfl, Below.refl _ _⟩
theorem size_no {w : World} (c : Int) (hc : c < 0 ∨ 12 ≤ c) : Calls Tryd.prog 11 #[.int .i64 c] w fun e w' => e = .returned (.tuple #[.int .u64 0, .int .i64 2]) ∧ Below w.heap.size w w' := by
  have tc : (decide (c < 0) = true) ∨ (decide (c < 0) = false ∧ decide ((12 : Int) ≤ c) = true) := by
    by_cases h : c < 0
    · exact Or.inl (decide_eq_true h)
    · exact Or.inr ⟨decide_eq_false h, decide_eq_true (by omega)⟩
  clear hc
  rcases tc with tc | ⟨tc, td⟩
  all_goals
    go_enter Tryd.func11, Tryd.ntmps11
    go_wp2
    go_ret2
    exact ⟨rfl, Below.refl _ _⟩
theorem slices_ok {w : World} (L : Lay w) (c : Nat) (hc : c < 12) : Calls Tryd.prog 12 #[.int .i64 (c : Int)] w fun e w' => e = .returned (.tuple #[.int .i64 ((slicesAt c : Nat) : Int), .int .i64 0]) ∧ Below w.heap.size w w' := by
  have H := Lib.hid (size_ok L c hc)
  obtain ⟨b1, b2⟩ := size_bounds hc
  have hs : slicesAt c = if sizeAt c ≤ 256 then 1 else if sizeAt c ≤ 512 then 2 else 4 := rfl
  obtain ⟨s, hss⟩ : ∃ s, sizeAt c = s := ⟨_, rfl⟩
  rw [hss] at hs b1 b2 H
  obtain ⟨m, hm⟩ : ∃ m, slicesAt c = m := ⟨_, rfl⟩
  rw [hm] at hs ⊢
  clear hss hm
  have hcase : (decide ((s : Int) ≤ 256) = true ∧ m = 1) ∨ (decide ((s : Int) ≤ 256) = false ∧ decide ((s : Int) ≤ 512) = true ∧ m = 2) ∨ (decide ((s : Int) ≤ 256) = false ∧ decide ((s : Int) ≤ 512) = false ∧ m = 4) := by
    by_cases h1 : s ≤ 256
    · exact Or.inl ⟨decide_eq_true (by omega), by rw [hs, if_pos h1]⟩
    · by_cases h2 : s ≤ 512
      · exact Or.inr (Or.inl ⟨decide_eq_false (by omega), decide_eq_true (by omega), by rw [hs, if_neg h1, if_pos h2]⟩)
      · exact Or.inr (Or.inr ⟨decide_eq_false (by omega), decide_eq_false (by omega), by rw [hs, if_neg h1, if_neg h2]⟩)
  clear hs
  rcases hcase with ⟨t1, rfl⟩ | ⟨t1, t2, rfl⟩ | ⟨t1, t2, rfl⟩
  all_goals
    go_enter Tryd.func12, Tryd.ntmps12
    go_wp2_with fail
    refine H.out.mono ?_; rintro e w1 ⟨rfl, hb⟩
    have B := Lib.hid hb
    clear hb
    go_wp2
    go_ret2
    exact ⟨rfl, B.out⟩
theorem slices_no {w : World} (c : Int) (hc : c < 0 ∨ 12 ≤ c) : Calls Tryd.prog 12 #[.int .i64 c] w fun e w' => e = .returned (.tuple #[.int .i64 0, .int .i64 2]) ∧ Below w.heap.size w w' := by
  have H := Lib.hid (size_no (w := w) c hc)
  clear hc
  go_enter Tryd.func12, Tryd.ntmps12
  go_wp2_with fail
  refine H.out.mono ?_; rintro e w1 ⟨rfl, hb⟩
  have B := Lib.hid hb
  clear hb
  go_wp2
  go_ret2
  exact ⟨rfl, B.out⟩
theorem blocks_ok {w : World} (L : Lay w) (c : Nat) (hc : c < 12) : Calls Tryd.prog 13 #[.int .i64 (c : Int)] w fun e w' => e = .returned (.tuple #[.int .i64 ((blocksAt c : Nat) : Int), .int .i64 0]) ∧ Below w.heap.size w w' := by
  have H := Lib.hid (slices_ok L c hc)
  have hL := Lib.hid L
  obtain ⟨b1, b2⟩ := size_bounds hc
  obtain ⟨m1, m2⟩ := slices_bounds hc
  have hdiv : Int.tdiv (((slicesAt c : Nat) : Int) * 1024) ((sizeAt c : Nat) : Int) = ((blocksAt c : Nat) : Int) := by
    unfold blocksAt
    rw [show ((slicesAt c : Nat) : Int) * 1024 = ((1024 * slicesAt c : Nat) : Int) by omega]
    exact (Int.ofNat_tdiv _ _).symm
  have hdiv2 : (((slicesAt c : Nat) : Int) * 1024) / ((sizeAt c : Nat) : Int) = ((blocksAt c : Nat) : Int) := by
    unfold blocksAt
    rw [show ((slicesAt c : Nat) : Int) * 1024 = ((1024 * slicesAt c : Nat) : Int) by omega]
    exact (Int.natCast_ediv _ _).symm
  have kb : blocksAt c ≤ 64 := (blocks_fit hc).2.1
  have hcl : ∀ w', Below w.heap.size w w' → w'.cell? ⟨0, c, none⟩ = some (.int .u64 ((sizeAt c : Nat) : Int)) := fun w' hb => hL.out.below hb c hc
  obtain ⟨s, hss⟩ : ∃ s, sizeAt c = s := ⟨_, rfl⟩
  obtain ⟨m, hm⟩ : ∃ m, slicesAt c = m := ⟨_, rfl⟩
  obtain ⟨B, hB⟩ : ∃ B, blocksAt c = B := ⟨_, rfl⟩
  rw [hss] at b1 b2 hdiv hdiv2 hcl
  rw [hm] at m1 m2 hdiv hdiv2 H
  rw [hB] at hdiv hdiv2 kb ⊢
  have HCL := Lib.hid hcl
  have w1' : IntKind.i64.wrap (s : Int) = (s : Int) := IntWalk.i64_in _ ⟨by omega, by omega⟩
  have w2' : IntKind.i64.wrap ((m : Int) * 1024) = (m : Int) * 1024 := IntWalk.i64_in _ ⟨by omega, by omega⟩
  have z1 : ((s : Int) == 0) = false := by rw [beq_eq_false_iff_ne]; omega
  have p1 : (0 : Int) ≤ (c : Int) := by omega
  have p2 : (c : Int) < 12 := by omega
  clear hcl hss hm hB
  go_enter Tryd.func13, Tryd.ntmps13
  go_wp2_with fail
  refine H.out.mono ?_; rintro e w1 ⟨rfl, hb⟩
  have B := Lib.hid hb
  have hcell := HCL.out _ hb
  clear hb
  go_wp2
  go_ret2
  exact ⟨rfl, B.out⟩
theorem blocks_no {w : World} (c : Int) (hc : c < 0 ∨ 12 ≤ c) : Calls Tryd.prog 13 #[.int .i64 c] w fun e w' => e = .returned (.tuple #[.int .i64 0, .int .i64 2]) ∧ Below w.heap.size w w' := by
  have H := Lib.hid (slices_no (w := w) c hc)
  clear hc
  go_enter Tryd.func13, Tryd.ntmps13
  go_wp2_with fail
  refine H.out.mono ?_; rintro e w1 ⟨rfl, hb⟩
  have B := Lib.hid hb
  clear hb
  go_wp2
  go_ret2
  exact ⟨rfl, B.out⟩
end Go.Proofs.YthblggnjfmgonaaDoor
