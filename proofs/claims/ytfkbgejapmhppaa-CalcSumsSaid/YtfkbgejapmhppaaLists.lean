/- calc.Sum, calc.Mul, calc.Most, calc.Least and what they call of package slices: contracts. -/
import Derived.Test.YtfkbgejapmhppaaRound
import Derived.Test.YtfkbgejapmhppaaListMath
namespace Go.Proofs.Ytfkbgejapmhppaa
open Go.RowKit

theorem sum_cells (b off cap : Nat) (l : List Nat) (hl : l.length ≤ 9223372036854775807) (w : World) (hv : ∀ j, l.getD j 0 ≤ 18446744073709551615)
    (hc : ∀ j, j < l.length → w.cell? ⟨b, off + j, none⟩ = some (.int .u64 ((l.getD j 0 : Nat) : Int))) :
    Calls Try.prog 19 #[.slice (some ⟨b, off, none⟩) l.length cap] w fun e w' => e = .returned (.tuple #[.int .u64 (CalcMath.sumV l : Nat), .int .i64 (CalcMath.sumE l : Nat)]) ∧ w = w' := by
  go_enter Try.func19, Try.ntmps19
  go_wp2
  go_loop [4, 9] (fun s i => ∃ k : Nat, k ≤ l.length ∧ i = .int .i64 k ∧ s = .int .u64 (CalcMath.sumN (l.take k) : Nat) ∧ CalcMath.sumN (l.take k) ≤ 1099511627776) (fun _ i => l.length - (intOf i).toNat)
  case atStart => exact ⟨0, Nat.zero_le _, rfl, rfl, by simp [CalcMath.sumN]⟩
  case round =>
    obtain ⟨k, hk, rfl, rfl, hs⟩ := hrel
    by_cases hlt : k < l.length
    · have hcell := hc k hlt
      have hvk := hv k
      have hsn := CalcMath.sumN_snoc l k hlt
      have HS := Lib.hid hsn
      have hle := CalcMath.sumN_take_le l (k + 1)
      have hg : l.getD k 0 = l[k] := by simp [List.getD_eq_getElem?_getD, hlt]
      rw [hg] at hsn hvk HS
      by_cases hb : CalcMath.sumN (l.take (k + 1)) ≤ 1099511627776
      · have hx : l[k] ≤ 1099511627776 - CalcMath.sumN (l.take k) := by omega
        clear hsn hle hc hv hg
        go_wp2
        go_round
        case rel => exact ⟨k + 1, by omega, by go_num, by rw [HS.out]; go_num, hb⟩
        case measure => simp [intOf]; omega
      · have hx : 1099511627776 - CalcMath.sumN (l.take k) < l[k] := by omega
        have f1 : CalcMath.sumV l = 0 := by unfold CalcMath.sumV; rw [if_neg (by omega)]
        have f2 : CalcMath.sumE l = 3 := by unfold CalcMath.sumE; rw [if_neg (by omega)]
        have F1 := Lib.hid f1; have F2 := Lib.hid f2
        clear hsn hle f1 f2 hc hv hg
        go_wp2
        go_ret2
        exact ⟨by rw [F1.out, F2.out]; rfl, rfl⟩
    · have e : k = l.length := by omega
      have et : l.take k = l := List.take_of_length_le (by omega)
      rw [et] at hs
      have f1 : CalcMath.sumV l = CalcMath.sumN (l.take k) := by unfold CalcMath.sumV; rw [if_pos hs, et]
      have f2 : CalcMath.sumE l = 0 := by unfold CalcMath.sumE; rw [if_pos hs]
      have F1 := Lib.hid f1; have F2 := Lib.hid f2
      clear e et f1 f2 hc hv hs
      go_wp2
      go_ret2
      exact ⟨by rw [F1.out, F2.out]; rfl, rfl⟩

theorem sum_none (a : Option Addr) (cap : Nat) (w : World) :
    Calls Try.prog 19 #[.slice a 0 cap] w fun e w' => e = .returned (.tuple #[.int .u64 (CalcMath.sumV [] : Nat), .int .i64 (CalcMath.sumE [] : Nat)]) ∧ w = w' := by
  go_enter Try.func19, Try.ntmps19
  go_wp2
  go_loop [4, 9] (fun s i => i = .int .i64 0 ∧ s = .int .u64 0) (fun _ i => 0 - (intOf i).toNat)
  case atStart => exact ⟨rfl, rfl⟩
  case round =>
    obtain ⟨rfl, rfl⟩ := hrel
    go_wp2
    go_ret2
    exact ⟨rfl, rfl⟩

/-- slices.Index of a number that is there, and of one that isn't. -/
def SomeAtLeast (w : World) (e : Ending) (w' : World) : Prop := ∃ n : Int, 0 ≤ n ∧ e = .returned (.int .i64 n) ∧ w = w'

theorem index_yes (b off cap : Nat) (l : List Nat) (v : Nat) (hl : l.length ≤ 9223372036854775807) (w : World) (hm : v ∈ l)
    (hc : ∀ j, j < l.length → w.cell? ⟨b, off + j, none⟩ = some (.int .u64 ((l.getD j 0 : Nat) : Int))) :
    Calls Try.prog 37 #[.slice (some ⟨b, off, none⟩) l.length cap, .int .u64 (v : Int)] w (SomeAtLeast w) := by
  obtain ⟨q, hq, hqv⟩ := (CalcMath.mem_iff_getD l v).1 hm
  have HQ := Lib.hid hqv; clear hqv hm
  go_enter Try.func37, Try.ntmps37
  go_wp2
  go_loop [8] (fun i => ∃ k : Nat, k ≤ q ∧ i = .int .i64 k) (fun i => l.length - (intOf i).toNat)
  case atStart => exact ⟨0, Nat.zero_le _, rfl⟩
  case round =>
    obtain ⟨k, hk, rfl⟩ := hrel
    have hlt : k < l.length := by omega
    have hcell := hc k hlt
    have hg : l.getD k 0 = l[k] := by simp [List.getD_eq_getElem?_getD, hlt]
    by_cases hv : v = l.getD k 0
    · have hb : ((v : Int) == (l[k] : Int)) = true := by rw [← hg, ← hv]; simp
      clear hv hg hc
      go_wp2
      go_ret
      exact ⟨k, Int.natCast_nonneg _, rfl, rfl⟩
    · have hb : ((v : Int) == (l[k] : Int)) = false := beq_eq_false_iff_ne.2 (by rw [← hg]; omega)
      have hkq : k < q := by
        rcases Nat.lt_or_eq_of_le hk with h | h
        · exact h
        · exfalso; apply hv; rw [h, HQ.out]
      clear hv hg hc
      go_wp2
      go_round
      case rel => exact ⟨k + 1, by omega, by go_num⟩
      case measure => simp [intOf]; omega

theorem index_no (b off cap : Nat) (l : List Nat) (v : Nat) (hl : l.length ≤ 9223372036854775807) (w : World) (hm : v ∉ l)
    (hc : ∀ j, j < l.length → w.cell? ⟨b, off + j, none⟩ = some (.int .u64 ((l.getD j 0 : Nat) : Int))) :
    Calls Try.prog 37 #[.slice (some ⟨b, off, none⟩) l.length cap, .int .u64 (v : Int)] w fun e w' => e = .returned (.int .i64 (-1)) ∧ w = w' := by
  have hne : ∀ j, j < l.length → l.getD j 0 ≠ v := fun j hj e => hm ((CalcMath.mem_iff_getD l v).2 ⟨j, hj, e⟩)
  have HN := Lib.hid hne; clear hne hm
  go_enter Try.func37, Try.ntmps37
  go_wp2
  go_loop [8] (fun i => ∃ k : Nat, k ≤ l.length ∧ i = .int .i64 k) (fun i => l.length - (intOf i).toNat)
  case atStart => exact ⟨0, Nat.zero_le _, rfl⟩
  case round =>
    obtain ⟨k, hk, rfl⟩ := hrel
    by_cases hlt : k < l.length
    · have hcell := hc k hlt
      have hg : l.getD k 0 = l[k] := by simp [List.getD_eq_getElem?_getD, hlt]
      have hb : ((v : Int) == (l[k] : Int)) = false := by
        have := HN.out k hlt
        rw [hg] at this
        exact beq_eq_false_iff_ne.2 (by omega)
      clear hg hc
      go_wp2
      go_round
      case rel => exact ⟨k + 1, by omega, by go_num⟩
      case measure => simp [intOf]; omega
    · clear hc
      go_wp2
      go_ret
      exact ⟨rfl, rfl⟩

theorem index_none (a : Option Addr) (cap v : Nat) (w : World) :
    Calls Try.prog 37 #[.slice a 0 cap, .int .u64 (v : Int)] w fun e w' => e = .returned (.int .i64 (-1)) ∧ w = w' := by
  go_enter Try.func37, Try.ntmps37
  go_wp2
  go_loop [8] (fun i => i = .int .i64 0) (fun i => 0 - (intOf i).toNat)
  case atStart => exact rfl
  case round =>
    obtain rfl := hrel
    go_wp2
    go_ret
    exact ⟨rfl, rfl⟩

theorem contains_yes (b off cap : Nat) (l : List Nat) (v : Nat) (hl : l.length ≤ 9223372036854775807) (w : World) (hm : v ∈ l)
    (hc : ∀ j, j < l.length → w.cell? ⟨b, off + j, none⟩ = some (.int .u64 ((l.getD j 0 : Nat) : Int))) :
    Calls Try.prog 31 #[.slice (some ⟨b, off, none⟩) l.length cap, .int .u64 (v : Int)] w fun e w' => e = .returned (.bool true) ∧ w = w' := by
  have H := fun w hc => index_yes b off cap l v hl w hm hc
  clear hm
  go_enter Try.func31, Try.ntmps31
  go_wp2_with (go_at_call 37; refine (H _ hc).mono ?_; rintro e w' ⟨n, hn, rfl, rfl⟩)
  go_ret
  exact ⟨rfl, rfl⟩

theorem contains_no (b off cap : Nat) (l : List Nat) (v : Nat) (hl : l.length ≤ 9223372036854775807) (w : World) (hm : v ∉ l)
    (hc : ∀ j, j < l.length → w.cell? ⟨b, off + j, none⟩ = some (.int .u64 ((l.getD j 0 : Nat) : Int))) :
    Calls Try.prog 31 #[.slice (some ⟨b, off, none⟩) l.length cap, .int .u64 (v : Int)] w fun e w' => e = .returned (.bool false) ∧ w = w' := by
  have H := fun w hc => index_no b off cap l v hl w hm hc
  clear hm
  go_enter Try.func31, Try.ntmps31
  go_wp2_with (go_at_call 37; refine (H _ hc).mono ?_; rintro e w' ⟨rfl, rfl⟩)
  go_ret
  exact ⟨rfl, rfl⟩

theorem contains_none (a : Option Addr) (cap v : Nat) (w : World) :
    Calls Try.prog 31 #[.slice a 0 cap, .int .u64 (v : Int)] w fun e w' => e = .returned (.bool false) ∧ w = w' := by
  go_enter Try.func31, Try.ntmps31
  go_wp2_with (go_at_call 37; refine (index_none _ _ _ _).mono ?_; rintro e w' ⟨rfl, rfl⟩)
  go_ret
  exact ⟨rfl, rfl⟩

theorem mul_cells (b off cap : Nat) (l : List Nat) (hl : l.length ≤ 9223372036854775807) (w : World) (hv : ∀ j, l.getD j 0 ≤ 18446744073709551615)
    (hc : ∀ j, j < l.length → w.cell? ⟨b, off + j, none⟩ = some (.int .u64 ((l.getD j 0 : Nat) : Int))) :
    Calls Try.prog 21 #[.slice (some ⟨b, off, none⟩) l.length cap] w fun e w' => e = .returned (.tuple #[.int .u64 (CalcMath.mulV l : Nat), .int .i64 (CalcMath.mulE l : Nat)]) ∧ w = w' := by
  by_cases hm : 0 ∈ l
  · have H := fun w hc => contains_yes b off cap l 0 hl w hm hc
    have f0 := CalcMath.prodN_zero l hm
    have f1 : CalcMath.mulV l = 0 := by unfold CalcMath.mulV; rw [f0]; rfl
    have f2 : CalcMath.mulE l = 0 := by unfold CalcMath.mulE; rw [f0]; rfl
    have F1 := Lib.hid f1; have F2 := Lib.hid f2
    clear hm f0 f1 f2
    go_enter Try.func21, Try.ntmps21
    go_wp2_with (go_at_call 31; refine (H _ hc).mono ?_; rintro e w' ⟨rfl, rfl⟩)
    go_ret2
    exact ⟨by rw [F1.out, F2.out]; rfl, rfl⟩
  · have H := fun w hc => contains_no b off cap l 0 hl w hm hc
    have HM := Lib.hid hm; clear hm
    go_enter Try.func21, Try.ntmps21
    go_wp2_with (go_at_call 31; refine (H _ hc).mono ?_; rintro e w' ⟨rfl, rfl⟩)
    go_loop [4, 11] (fun s i => ∃ k : Nat, k ≤ l.length ∧ i = .int .i64 k ∧ s = .int .u64 (CalcMath.prodN (l.take k) : Nat) ∧ CalcMath.prodN (l.take k) ≤ 1099511627776) (fun _ i => l.length - (intOf i).toNat)
    case atStart => exact ⟨0, Nat.zero_le _, rfl, rfl, by simp [CalcMath.prodN]⟩
    case round =>
      clear H
      obtain ⟨k, hk, rfl, rfl, hs⟩ := hrel
      have hp : 1 ≤ CalcMath.prodN (l.take k) := CalcMath.prodN_pos _ (fun h => HM.out (List.mem_of_mem_take h))
      by_cases hlt : k < l.length
      · have hcell := hc k hlt
        have hvk := hv k
        have hsn := CalcMath.prodN_snoc l k hlt
        have HS := Lib.hid hsn
        have hle := CalcMath.prodN_take_le l (k + 1) HM.out
        have hg : l.getD k 0 = l[k] := by simp [List.getD_eq_getElem?_getD, hlt]
        rw [hg] at hsn hvk HS
        by_cases hb : CalcMath.prodN (l.take (k + 1)) ≤ 1099511627776
        · have hx : l[k] ≤ 1099511627776 / CalcMath.prodN (l.take k) := (CalcMath.mul_le_iff _ _ hp).1 (by rw [← hsn]; exact hb)
          have hpr : ((CalcMath.prodN (l.take k) : Nat) : Int) * (l[k] : Int) = ((CalcMath.prodN (l.take (k + 1)) : Nat) : Int) := by rw [hsn]; push_cast; rfl
          have hwr : IntKind.u64.wrap (((CalcMath.prodN (l.take k) : Nat) : Int) * (l[k] : Int)) = ((CalcMath.prodN (l.take (k + 1)) : Nat) : Int) := by rw [hpr, CalcMath.wrap_nat _ (by omega)]
          have HW := Lib.hid hwr
          have hx' : (l[k] : Int) ≤ 1099511627776 / ((CalcMath.prodN (l.take k) : Nat) : Int) := by rw [CalcMath.cast_div]; omega
          clear hsn hle hc hv hg hpr hwr hx
          go_wp2
          go_round
          case rel => exact ⟨k + 1, by omega, by go_num, by rw [HW.out], hb⟩
          case measure => simp [intOf]; omega
        · have hx : 1099511627776 / CalcMath.prodN (l.take k) < l[k] := by
            apply Nat.lt_of_not_le
            intro h
            exact hb (by rw [hsn]; exact (CalcMath.mul_le_iff _ _ hp).2 h)
          have f1 : CalcMath.mulV l = 0 := by unfold CalcMath.mulV; rw [if_neg (by omega)]
          have f2 : CalcMath.mulE l = 3 := by unfold CalcMath.mulE; rw [if_neg (by omega)]
          have F1 := Lib.hid f1; have F2 := Lib.hid f2
          have hx' : 1099511627776 / ((CalcMath.prodN (l.take k) : Nat) : Int) < (l[k] : Int) := by rw [CalcMath.cast_div]; omega
          clear hsn hle f1 f2 hc hv hg hb hx
          go_wp2
          go_ret2
          exact ⟨by rw [F1.out, F2.out]; rfl, rfl⟩
      · have e : k = l.length := by omega
        have et : l.take k = l := List.take_of_length_le (by omega)
        have f1 : CalcMath.mulV l = CalcMath.prodN (l.take k) := by unfold CalcMath.mulV; rw [et] at hs; rw [if_pos hs, et]
        have f2 : CalcMath.mulE l = 0 := by unfold CalcMath.mulE; rw [et] at hs; rw [if_pos hs]
        have F1 := Lib.hid f1; have F2 := Lib.hid f2
        clear e et f1 f2 hc hv hs
        go_wp2
        go_ret2
        exact ⟨by rw [F1.out, F2.out]; rfl, rfl⟩

theorem mul_none (a : Option Addr) (cap : Nat) (w : World) :
    Calls Try.prog 21 #[.slice a 0 cap] w fun e w' => e = .returned (.tuple #[.int .u64 (CalcMath.mulV [] : Nat), .int .i64 (CalcMath.mulE [] : Nat)]) ∧ w = w' := by
  go_enter Try.func21, Try.ntmps21
  go_wp2_with (go_at_call 31; refine (contains_none _ _ 0 _).mono ?_; rintro e w' ⟨rfl, rfl⟩)
  go_loop [4, 11] (fun s i => i = .int .i64 0 ∧ s = .int .u64 1) (fun _ i => 0 - (intOf i).toNat)
  case atStart => exact ⟨rfl, rfl⟩
  case round =>
    obtain ⟨rfl, rfl⟩ := hrel
    go_wp2
    go_ret2
    exact ⟨rfl, rfl⟩

end Go.Proofs.Ytfkbgejapmhppaa
