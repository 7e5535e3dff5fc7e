/- The document's own classes (allotmentref05): Sizes, Slices, Of: contracts. -/
import Derived.Test.YthblggnjfmgonaaDoorClassMath
import Derived.Test.YthblggnjfmgonaaDoorVec
import Derived.Test.YthblggnjfmgonaaDoorRows
import Derived.WalkKit
import Derived.WalkSpells
import Derived.WalkLawsBesides
import Derived.Outline
import Derived.Lib.Hide
import Derived.Below
namespace Go.Proofs.YthblggnjfmgonaaDoor
open Go.RowKit ClassMath
set_option linter.unusedVariables false

theorem updFalse_of {w w' : World} (h : Below w.heap.size w w') : Upd (fun _ => False) w w' := ⟨h.os, h.tape, h.output, h.size, fun k hk _ => h.block k hk⟩
/-- A block that holds the classes' sizes. -/
def SizesAt (w : World) (g : Nat) : Prop := Blk w g 22 #[.int .u64 16, .int .u64 32, .int .u64 48, .int .u64 64, .int .u64 96, .int .u64 128, .int .u64 192, .int .u64 256, .int .u64 384, .int .u64 512, .int .u64 768, .int .u64 1024]
theorem SizesAt.cell {w : World} {g : Nat} (h : SizesAt w g) {j : Nat} (hj : j < 12) : w.cell? ⟨g, j, none⟩ = some (.int .u64 ((sizeAt j : Nat) : Int)) := by
  rw [Blk.cell h]
  exact below12 (P := fun j => (#[Value.int .u64 16, .int .u64 32, .int .u64 48, .int .u64 64, .int .u64 96, .int .u64 128, .int .u64 192, .int .u64 256, .int .u64 384, .int .u64 512, .int .u64 768, .int .u64 1024])[j]? = some (.int .u64 ((sizeAt j : Nat) : Int))) (fun c => by
    rcases c with ⟨c, hc⟩
    rcases c with _ | _ | _ | _ | _ | _ | _ | _ | _ | _ | _ | _ | c
    all_goals first | rfl | omega) j hj
theorem SizesAt.below {w w' : World} {g : Nat} (h : SizesAt w g) (hb : Below w.heap.size w w') : SizesAt w' g := Blk.upd h (updFalse_of hb) id
theorem ref_sizes (w : World) : Calls Tryd.prog 16 #[] w fun e w' => ∃ g, e = .returned (.slice (some ⟨g, 0, none⟩) 12 12) ∧ SizesAt w' g ∧ w.heap.size ≤ g ∧ Below w.heap.size w w' := by
  go_enter Tryd.func16, Tryd.ntmps16
  go_wp2
  go_ret
  exact ⟨w.heap.size, rfl, Blk.new w _ _, Nat.le_refl _, (Below.refl _ w).alloc (Nat.le_refl _) _⟩
theorem ref_slices (w : World) (c : Nat) (hc : c < 12) : Calls Tryd.prog 17 #[.int .i64 (c : Int)] w fun e w' => e = .returned (.int .i64 ((slicesAt c : Nat) : Int)) ∧ Below w.heap.size w w' := by
  obtain ⟨b1, b2⟩ := size_bounds hc
  have hs : slicesAt c = if sizeAt c ≤ 256 then 1 else if sizeAt c ≤ 512 then 2 else 4 := rfl
  obtain ⟨s, hss⟩ : ∃ s, sizeAt c = s := ⟨_, rfl⟩
  have HSS := Lib.hid hss
  rw [hss] at hs b1 b2
  obtain ⟨m, hm⟩ : ∃ m, slicesAt c = m := ⟨_, rfl⟩
  rw [hm] at hs ⊢
  have HS := Lib.hid hs
  clear hs hss hm
  by_cases h1 : s ≤ 256
  · have t1 : decide ((s : Int) ≤ 256) = true := decide_eq_true (by omega)
    obtain rfl : m = 1 := by rw [HS.out, if_pos h1]
    clear h1
    go_enter Tryd.func17, Tryd.ntmps17
    go_wp2_with fail
    refine (ref_sizes _).mono ?_; rintro e w1 ⟨g, rfl, hz, hg, hb⟩
    have hcell := hz.cell hc
    rw [HSS.out] at hcell
    have B := Lib.hid hb
    clear hz hg hb
    go_wp2
    go_ret
    exact ⟨rfl, B.out⟩
  · have t1 : decide ((s : Int) ≤ 256) = false := decide_eq_false (by omega)
    by_cases h2 : s ≤ 512
    · have t2 : decide ((s : Int) ≤ 512) = true := decide_eq_true (by omega)
      obtain rfl : m = 2 := by rw [HS.out, if_neg h1, if_pos h2]
      clear h1 h2
      go_enter Tryd.func17, Tryd.ntmps17
      go_wp2_with fail
      refine (ref_sizes _).mono ?_; rintro e w1 ⟨g, rfl, hz, hg, hb⟩
      have hcell := hz.cell hc
      rw [HSS.out] at hcell
      have B := Lib.hid hb
      clear hz hg hb
      go_wp2
      go_ret
      exact ⟨rfl, B.out⟩
    · have t2 : decide ((s : Int) ≤ 512) = false := decide_eq_false (by omega)
      obtain rfl : m = 4 := by rw [HS.out, if_neg h1, if_neg h2]
      clear h1 h2
      go_enter Tryd.func17, Tryd.ntmps17
      go_wp2_with fail
      refine (ref_sizes _).mono ?_; rintro e w1 ⟨g, rfl, hz, hg, hb⟩
      have hcell := hz.cell hc
      rw [HSS.out] at hcell
      have B := Lib.hid hb
      clear hz hg hb
      go_wp2
      go_ret
      exact ⟨rfl, B.out⟩

/-! ### Of -/
def ofC (o : Option Nat) : Nat := o.getD 0
theorem ref_of (w : World) (n : Nat) (hn : n ≤ 18446744073709551615) : Calls Tryd.prog 15 #[.int .u64 (n : Int)] w fun e w' => e = .returned (.tuple #[.int .i64 ((ofC (ofN n) : Nat) : Int), .bool (ofN n).isSome]) ∧ Below w.heap.size w w' := by
  obtain ⟨k, hk⟩ : ∃ k, ofC (ofN n) = k := ⟨_, rfl⟩
  obtain ⟨y, hy⟩ : ∃ y, (ofN n).isSome = y := ⟨_, rfl⟩
  have HK := Lib.hid hk; have HY := Lib.hid hy
  rw [hk, hy]
  clear hk hy
  go_enter Tryd.func15, Tryd.ntmps15
  go_wp2_with fail
  refine (ref_sizes _).mono ?_; rintro e w1 ⟨g, rfl, hz, hg, hb⟩
  have Z := Lib.hid hz; have B := Lib.hid hb
  clear hz hg hb
  go_wp2
  go_loop [8] (fun i => ∃ c : Nat, c ≤ 12 ∧ i = .int .i64 (c : Int) ∧ ∀ d, d < c → decide (n ≤ sizeAt d) = false) (fun i => 12 - (intOf i).toNat)
  case atStart => exact ⟨0, by omega, rfl, fun d hd => by omega⟩
  case round =>
    obtain ⟨c, hc, rfl, hno⟩ := hrel
    have NO := Lib.hid hno
    clear hno
    by_cases hlt : c < 12
    · have hcell := Z.out.cell hlt
      obtain ⟨b1, b2⟩ := size_bounds hlt
      obtain ⟨s, hss⟩ : ∃ s, sizeAt c = s := ⟨_, rfl⟩
      have HSS := Lib.hid hss
      rw [hss] at hcell b1 b2
      clear hss
      by_cases hs : n ≤ s
      · have t1 : decide (n ≤ s) = true := decide_eq_true hs
        have hof : ofN n = some c := firstC_of hlt (by rw [HSS.out]; exact t1) NO.out
        have e1 := HK.out
        have e2 := HY.out
        rw [hof] at e1 e2
        obtain rfl : c = k := e1
        obtain rfl : true = y := e2
        clear hof hs
        go_wp2
        go_ret2
        exact ⟨rfl, B.out⟩
      · have t1 : decide (n ≤ s) = false := decide_eq_false hs
        have T1 := Lib.hid t1
        clear hs
        go_wp2
        go_round
        case rel => exact ⟨c + 1, by omega, by go_num, fun d hd => by
          rcases Nat.lt_or_ge d c with h | h
          · exact NO.out d h
          · obtain rfl : d = c := by omega
            rw [HSS.out]; exact T1.out⟩
        case measure => simp [intOf]; omega
    · obtain rfl : c = 12 := by omega
      have hof : ofN n = none := firstC_no NO.out
      have e1 := HK.out
      have e2 := HY.out
      rw [hof] at e1 e2
      obtain rfl : 0 = k := e1
      obtain rfl : false = y := e2
      clear hof
      go_wp2
      go_ret2
      exact ⟨rfl, B.out⟩
end Go.Proofs.YthblggnjfmgonaaDoor
