/- The document's own classes (allotmentref05): Blocks: contract. -/
import Derived.Test.YthblggnjfmgonaaDoorRefC1
import Derived.Deep.RegionWith
import Derived.RegionTactic
namespace Go.Proofs.YthblggnjfmgonaaDoor
open Go.RowKit ClassMath
set_option linter.unusedVariables false

def Counting (w : World) (B : Nat) (i : Value) (wr : World) : Prop := ∃ j : Nat, j ≤ B ∧ i = .int .i64 (j : Int) ∧ Below w.heap.size w wr
theorem u64_in (n : Int) (h : 0 ≤ n ∧ n ≤ 18446744073709551615) : IntKind.u64.wrap n = n := by
  simp [IntKind.wrap, IntKind.bits, IntKind.signed]; omega
set_option maxHeartbeats 1000000 in
theorem ref_blocks (w : World) (c : Nat) (hc : c < 12) : Calls Tryd.prog 18 #[.int .i64 (c : Int)] w fun e w' => e = .returned (.int .i64 ((blocksAt c : Nat) : Int)) ∧ Below w.heap.size w w' := by
  obtain ⟨b1, b2⟩ := size_bounds hc
  obtain ⟨m1, m2⟩ := slices_bounds hc
  obtain ⟨k1, k2, k3, k4⟩ := blocks_fit hc
  have HSL := Lib.hid (fun w => ref_slices w c hc)
  obtain ⟨s, hss⟩ : ∃ s, sizeAt c = s := ⟨_, rfl⟩
  obtain ⟨m, hm⟩ : ∃ m, slicesAt c = m := ⟨_, rfl⟩
  obtain ⟨B, hB⟩ : ∃ B, blocksAt c = B := ⟨_, rfl⟩
  rw [hss] at b1 b2 k3 k4
  rw [hm] at m1 m2 k3 k4 HSL
  rw [hB] at k1 k2 k3 k4 ⊢
  have HSS := Lib.hid hss
  have K3 := Lib.hid k3; have K4 := Lib.hid k4
  clear hss hm hB k3 k4
  go_enter Tryd.func18, Tryd.ntmps18
  go_wp2
  go_loopw [3] (fun i wr => Counting w B i wr) (fun i _ => B + 1 - (intOf i).toNat)
  case atStart => exact ⟨0, Nat.zero_le _, rfl, Below.refl _ _⟩
  case round =>
    obtain ⟨j, hj, rfl, hb⟩ := hrel
    have B2 := Lib.hid hb
    have sr := hb.size
    clear hb
    have q0 : ((j : Int) + 1) * (s : Int) = (((j + 1) * s : Nat) : Int) := by rw [Int.natCast_mul]; rfl
    have hle : (j + 1) * s ≤ 66560 := Nat.le_trans (Nat.mul_le_mul (show j + 1 ≤ 65 by omega) b2) (by decide)
    have q1 : (0 : Int) ≤ ((j : Int) + 1) * (s : Int) := by rw [q0]; omega
    have q2 : ((j : Int) + 1) * (s : Int) ≤ 66560 := by rw [q0]; omega
    have w1 : IntKind.u64.wrap (((j : Int) + 1) * (s : Int)) = ((j : Int) + 1) * (s : Int) := u64_in _ ⟨q1, by omega⟩
    have w2 : IntKind.u64.wrap ((j : Int) + 1) = (j : Int) + 1 := u64_in _ ⟨by omega, by omega⟩
    have w3 : IntKind.u64.wrap (m : Int) = (m : Int) := u64_in _ ⟨by omega, by omega⟩
    have w4 : IntKind.u64.wrap (1024 * (m : Int)) = 1024 * (m : Int) := u64_in _ ⟨by omega, by omega⟩
    have w5' : IntKind.i64.wrap ((j : Int) + 1) = (j : Int) + 1 := IntWalk.i64_in _ ⟨by omega, by omega⟩
    have p1 : (0 : Int) ≤ (c : Int) := by omega
    have p2 : (c : Int) < 12 := by omega
    by_cases hlt : j < B
    · have t1 : decide (((j : Int) + 1) * (s : Int) ≤ 1024 * (m : Int)) = true := decide_eq_true (by
        have := K3.out
        have h2 : (j + 1) * s ≤ B * s := Nat.mul_le_mul_right s hlt
        rw [q0]; omega)
      clear q0 hle
      go_wp2
      go_region_with (first
        | (go_at_call 16; refine (ref_sizes _).mono ?_; rintro e w5 ⟨g, rfl, hz, hg, hb⟩; have hcell := hz.cell hc; rw [HSS.out] at hcell; have Z := Lib.hid hz; have B5 := Lib.hid (B2.out.drew.trans (hb.mono sr)); clear hz hg hb)
        | (go_at_call 17; refine (HSL.out _).mono ?_; rintro e w6 ⟨rfl, hb⟩; have hcell := (Z.out.below hb).cell hc; rw [HSS.out] at hcell; have B6 := Lib.hid (B5.out.trans (hb.mono B5.out.size)); clear hb))
      all_goals
        clear w1 w2 w3 w4 w5'
        go_wp2
        go_roundw
        case rel => exact ⟨j + 1, by omega, by go_num, B6.out⟩
        case measure => simp [intOf]; omega
    · obtain rfl : j = B := by omega
      have t1 : decide (((j : Int) + 1) * (s : Int) ≤ 1024 * (m : Int)) = false := decide_eq_false (by
        have := K4.out
        rw [q0]; omega)
      clear q0 hle
      go_wp2
      go_region_with (first
        | (go_at_call 16; refine (ref_sizes _).mono ?_; rintro e w5 ⟨g, rfl, hz, hg, hb⟩; have hcell := hz.cell hc; rw [HSS.out] at hcell; have Z := Lib.hid hz; have B5 := Lib.hid (B2.out.drew.trans (hb.mono sr)); clear hz hg hb)
        | (go_at_call 17; refine (HSL.out _).mono ?_; rintro e w6 ⟨rfl, hb⟩; have hcell := (Z.out.below hb).cell hc; rw [HSS.out] at hcell; have B6 := Lib.hid (B5.out.trans (hb.mono B5.out.size)); clear hb))
      all_goals
        clear w1 w2 w3 w4 w5'
        go_wp2
        go_ret
        exact ⟨rfl, B6.out⟩
end Go.Proofs.YthblggnjfmgonaaDoor
