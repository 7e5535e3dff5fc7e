/- slices.Max, slices.Min at numbers, calc.Most, calc.Least: contracts. -/
import Derived.Test.YtfkbgejapmhppaaLists
import Derived.Test.YtfkbgejapmhppaaSlices
namespace Go.Proofs.Ytfkbgejapmhppaa
open Go.RowKit

theorem CalcMath.max_int (m x : Nat) : (if m < x then (x : Int) else (m : Int)) = ((max m x : Nat) : Int) := by split <;> omega
theorem CalcMath.min_int (m x : Nat) : (if x < m then (x : Int) else (m : Int)) = ((min m x : Nat) : Int) := by split <;> omega

theorem max_cells (b off cap : Nat) (l : List Nat) (hn : 0 < l.length) (hl : l.length ≤ 9223372036854775807) (w : World)
    (hc : ∀ j, j < l.length → w.cell? ⟨b, off + j, none⟩ = some (.int .u64 ((l.getD j 0 : Nat) : Int))) :
    Calls Try.prog 33 #[.slice (some ⟨b, off, none⟩) l.length cap] w fun e w' => e = .returned (.int .u64 (CalcMath.mostN l : Nat)) ∧ w = w' := by
  have h0 := hc 0 hn
  rw [Nat.add_zero] at h0
  have hg0 : l.getD 0 0 = l[0] := by simp [List.getD_eq_getElem?_getD, hn]
  have one := Lib.hid ((CalcMath.most_one l hn).trans hg0)
  clear hg0
  go_enter Try.func33, Try.ntmps33
  go_wp2
  go_loop [3, 4] (fun s i => ∃ k : Nat, 1 ≤ k ∧ k ≤ l.length ∧ i = .int .i64 k ∧ s = .int .u64 (CalcMath.mostN (l.take k) : Nat)) (fun _ i => l.length - (intOf i).toNat)
  case atStart => exact ⟨1, by omega, by omega, rfl, by rw [one.out]⟩
  case round =>
    clear h0
    obtain ⟨k, hk1, hk, rfl, rfl⟩ := hrel
    by_cases hlt : k < l.length
    · have hcell := hc k hlt
      have hsn := CalcMath.mostN_snoc l k (by omega) hlt
      have hg : l.getD k 0 = l[k] := by simp [List.getD_eq_getElem?_getD, hlt]
      rw [hg] at hsn
      have HS := Lib.hid hsn
      clear hsn hg hc
      go_wp2
      go_round
      case rel => exact ⟨k + 1, by omega, by omega, by go_num, by rw [HS.out, ← CalcMath.max_int]⟩
      case measure => simp [intOf]; omega
    · have e : k = l.length := by omega
      have et : l.take k = l := List.take_of_length_le (by omega)
      have HT := Lib.hid et
      clear e et hc
      go_wp2
      go_ret
      exact ⟨ret_int (by rw [HT.out]), rfl⟩

theorem min_cells (b off cap : Nat) (l : List Nat) (hn : 0 < l.length) (hl : l.length ≤ 9223372036854775807) (w : World)
    (hc : ∀ j, j < l.length → w.cell? ⟨b, off + j, none⟩ = some (.int .u64 ((l.getD j 0 : Nat) : Int))) :
    Calls Try.prog 34 #[.slice (some ⟨b, off, none⟩) l.length cap] w fun e w' => e = .returned (.int .u64 (CalcMath.leastN l : Nat)) ∧ w = w' := by
  have h0 := hc 0 hn
  rw [Nat.add_zero] at h0
  have hg0 : l.getD 0 0 = l[0] := by simp [List.getD_eq_getElem?_getD, hn]
  have one := Lib.hid ((CalcMath.least_one l hn).trans hg0)
  clear hg0
  go_enter Try.func34, Try.ntmps34
  go_wp2
  go_loop [3, 4] (fun s i => ∃ k : Nat, 1 ≤ k ∧ k ≤ l.length ∧ i = .int .i64 k ∧ s = .int .u64 (CalcMath.leastN (l.take k) : Nat)) (fun _ i => l.length - (intOf i).toNat)
  case atStart => exact ⟨1, by omega, by omega, rfl, by rw [one.out]⟩
  case round =>
    clear h0
    obtain ⟨k, hk1, hk, rfl, rfl⟩ := hrel
    by_cases hlt : k < l.length
    · have hcell := hc k hlt
      have hsn := CalcMath.leastN_snoc l k (by omega) hlt
      have hg : l.getD k 0 = l[k] := by simp [List.getD_eq_getElem?_getD, hlt]
      rw [hg] at hsn
      have HS := Lib.hid hsn
      clear hsn hg hc
      go_wp2
      go_round
      case rel => exact ⟨k + 1, by omega, by omega, by go_num, by rw [HS.out, ← CalcMath.min_int]⟩
      case measure => simp [intOf]; omega
    · have e : k = l.length := by omega
      have et : l.take k = l := List.take_of_length_le (by omega)
      have HT := Lib.hid et
      clear e et hc
      go_wp2
      go_ret
      exact ⟨ret_int (by rw [HT.out]), rfl⟩

theorem most_cells (b off cap : Nat) (l : List Nat) (hn : 0 < l.length) (hl : l.length ≤ 9223372036854775807) (w : World)
    (hc : ∀ j, j < l.length → w.cell? ⟨b, off + j, none⟩ = some (.int .u64 ((l.getD j 0 : Nat) : Int))) :
    Calls Try.prog 23 #[.slice (some ⟨b, off, none⟩) l.length cap] w fun e w' => e = .returned (.tuple #[.int .u64 (CalcMath.mostN l : Nat), .int .i64 0]) ∧ w = w' := by
  have H := fun w hc => max_cells b off cap l hn hl w hc
  go_enter Try.func23, Try.ntmps23
  go_wp2_with (go_at_call 33; refine (H _ hc).mono ?_; rintro e w' ⟨rfl, rfl⟩)
  go_ret2
  exact ⟨rfl, rfl⟩

theorem most_none (a : Option Addr) (cap : Nat) (w : World) :
    Calls Try.prog 23 #[.slice a 0 cap] w fun e w' => e = .returned (.tuple #[.int .u64 0, .int .i64 5]) ∧ w = w' := by
  go_enter Try.func23, Try.ntmps23
  go_wp2
  go_ret2
  exact ⟨rfl, rfl⟩

theorem least_cells (b off cap : Nat) (l : List Nat) (hn : 0 < l.length) (hl : l.length ≤ 9223372036854775807) (w : World)
    (hc : ∀ j, j < l.length → w.cell? ⟨b, off + j, none⟩ = some (.int .u64 ((l.getD j 0 : Nat) : Int))) :
    Calls Try.prog 24 #[.slice (some ⟨b, off, none⟩) l.length cap] w fun e w' => e = .returned (.tuple #[.int .u64 (CalcMath.leastN l : Nat), .int .i64 0]) ∧ w = w' := by
  have H := fun w hc => min_cells b off cap l hn hl w hc
  go_enter Try.func24, Try.ntmps24
  go_wp2_with (go_at_call 34; refine (H _ hc).mono ?_; rintro e w' ⟨rfl, rfl⟩)
  go_ret2
  exact ⟨rfl, rfl⟩

theorem least_none (a : Option Addr) (cap : Nat) (w : World) :
    Calls Try.prog 24 #[.slice a 0 cap] w fun e w' => e = .returned (.tuple #[.int .u64 0, .int .i64 5]) ∧ w = w' := by
  go_enter Try.func24, Try.ntmps24
  go_wp2
  go_ret2
  exact ⟨rfl, rfl⟩

theorem sum_any (w : World) (v : Value) (l : List Nat) (h : U64s w v l) (hl : l.length ≤ 9223372036854775807) (hv : ∀ j, l.getD j 0 ≤ 18446744073709551615) :
    Calls Try.prog 19 #[v] w fun e w' => e = .returned (.tuple #[.int .u64 (CalcMath.sumV l : Nat), .int .i64 (CalcMath.sumE l : Nat)]) ∧ w = w' := by
  rcases h with ⟨b, off, cap, rfl, hc⟩ | ⟨rfl, a, cap, rfl, _⟩
  · exact sum_cells b off cap l hl w hv hc
  · exact sum_none a cap w
theorem mul_any (w : World) (v : Value) (l : List Nat) (h : U64s w v l) (hl : l.length ≤ 9223372036854775807) (hv : ∀ j, l.getD j 0 ≤ 18446744073709551615) :
    Calls Try.prog 21 #[v] w fun e w' => e = .returned (.tuple #[.int .u64 (CalcMath.mulV l : Nat), .int .i64 (CalcMath.mulE l : Nat)]) ∧ w = w' := by
  rcases h with ⟨b, off, cap, rfl, hc⟩ | ⟨rfl, a, cap, rfl, _⟩
  · exact mul_cells b off cap l hl w hv hc
  · exact mul_none a cap w
namespace CalcMath
def endE (l : List Nat) : Nat := if l.length = 0 then 5 else 0
end CalcMath
theorem most_any (w : World) (v : Value) (l : List Nat) (h : U64s w v l) (hl : l.length ≤ 9223372036854775807) :
    Calls Try.prog 23 #[v] w fun e w' => e = .returned (.tuple #[.int .u64 (CalcMath.mostN l : Nat), .int .i64 (CalcMath.endE l : Nat)]) ∧ w = w' := by
  rcases h with ⟨b, off, cap, rfl, hc⟩ | ⟨rfl, a, cap, rfl, _⟩
  · by_cases hn : 0 < l.length
    · have e : CalcMath.endE l = 0 := by unfold CalcMath.endE; rw [if_neg (by omega)]
      rw [e]; exact most_cells b off cap l hn hl w hc
    · obtain rfl : l = [] := List.length_eq_zero_iff.1 (by omega)
      exact most_none _ cap w
  · exact most_none a cap w
theorem least_any (w : World) (v : Value) (l : List Nat) (h : U64s w v l) (hl : l.length ≤ 9223372036854775807) :
    Calls Try.prog 24 #[v] w fun e w' => e = .returned (.tuple #[.int .u64 (CalcMath.leastN l : Nat), .int .i64 (CalcMath.endE l : Nat)]) ∧ w = w' := by
  rcases h with ⟨b, off, cap, rfl, hc⟩ | ⟨rfl, a, cap, rfl, _⟩
  · by_cases hn : 0 < l.length
    · have e : CalcMath.endE l = 0 := by unfold CalcMath.endE; rw [if_neg (by omega)]
      rw [e]; exact least_cells b off cap l hn hl w hc
    · obtain rfl : l = [] := List.length_eq_zero_iff.1 (by omega)
      exact least_none _ cap w
  · exact least_none a cap w

end Go.Proofs.Ytfkbgejapmhppaa
