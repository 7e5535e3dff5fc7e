/- The law ArenaTold, walked. -/
import Derived.Test.YtnkahcfkbpbhiaaArena5
import Derived.Test.YtnkahcfkbpbhiaaOnes
import Derived.Test.YtnkahcfkbpbhiaaReads
namespace Go.Proofs.Ytnkahcfkbpbhiaa.arenaTold
open Go.RowKit ArenaMath
set_option linter.unusedVariables false

/-- How many are true among the first j. -/
def nos (l : List Bool) (j : Nat) : Nat := (l.take j).count true
theorem nos_zero (l : List Bool) : nos l 0 = 0 := by simp [nos]
theorem nos_le (l : List Bool) (j : Nat) : nos l j ≤ j := Nat.le_trans List.count_le_length (by simp; omega)
theorem nos_step {l : List Bool} {j : Nat} (h : j < l.length) (b : Bool) (hb : l.getD j false = b) : nos l (j + 1) = nos l j + (if b then 1 else 0) := by
  unfold nos
  rw [List.take_add_one, List.count_append]
  have : l[j]? = some b := by rw [← hb]; simp [List.getD_eq_getElem?_getD, h]
  rw [this]
  cases b <;> simp
def after (l : List Bool) (j : Nat) : St := ⟨64, 64, ones 0 (j - nos l j), l.drop j, nos l j⟩
theorem after_zero (l : List Bool) : after l 0 = ⟨64, 64, [], l, 0⟩ := by simp [after, nos_zero, ones_nil]
theorem after_no {l : List Bool} {j : Nat} (h : j < l.length) (hb : l.getD j false = true) : reserve (after l j) 1 = (0, 4, after l (j + 1)) := by
  have hd : (l.drop j).headD false = true := by rw [List.headD_eq_head?_getD, List.head?_drop, ← List.getD_eq_getElem?_getD]; exact hb
  have := reserve_no (s := after l j) (k := 1) (Nat.le_refl _) (by simp [after]) (.inl hd)
  rw [show ((1 : Nat) : Int) = 1 from rfl] at this
  rw [this]
  have e := nos_step h true hb
  simp only [after, St.no, e, if_true, List.drop_drop]
  rw [show j + 1 - (nos l j + 1) = j - nos l j by omega]
theorem after_yes {l : List Bool} {j : Nat} (h : j ≤ l.length) (hl : l.length ≤ 60) (hb : l.getD j false = false) : reserve (after l j) 1 = (((j - nos l j : Nat) : Int), 0, (after l j).give (j - nos l j) 1) := by
  have hd : (l.drop j).headD false = false := by rw [List.headD_eq_head?_getD, List.head?_drop, ← List.getD_eq_getElem?_getD]; exact hb
  have := reserve_some (s := after l j) (k := 1) (a := j - nos l j) (Nat.le_refl _) (by simp [after]) hd (by simp only [after, total_ones]; omega) (spot_ones (by simp only [after]; omega))
  rwa [show ((1 : Nat) : Int) = 1 from rfl] at this
theorem give_after {l : List Bool} {j : Nat} (h : j < l.length) (hb : l.getD j false = false) : (after l j).give (j - nos l j) 1 = after l (j + 1) := by
  have e := nos_step h false hb
  have := nos_le l j
  simp only [Bool.false_eq_true, if_false, Nat.add_zero] at e
  simp only [after, St.give, put_ones, List.drop_drop, e]
  rw [show j + 1 - nos l j = j - nos l j + 1 by omega]
def Telling (w : World) (q : Nat) (l : List Bool) (n i : Value) (wr : World) : Prop := ∃ j : Nat, j ≤ l.length ∧ i = .int .i64 (j : Int) ∧ n = .int .i64 ((nos l j : Nat) : Int) ∧ Lives w q (after l j) wr

set_option maxRecDepth 100000 in
set_option maxHeartbeats 2000000 in
theorem walk_short (w : World) (a : Option Addr) (cap : Nat) (l : List Bool) (h : FlagsAt w (.slice a l.length cap) l) (hl : l.length ≤ 60) :
    Calls Try.prog 5 #[.slice a l.length cap] w fun e w' => e = .returned (.bool true) ∧ Below w.heap.size w w' := by
  have H := Lib.hid h
  have t0 : decide ((60 : Int) < (l.length : Int)) = false := decide_eq_false (by omega)
  clear h
  go_enter Try.func5, Try.ntmps5
  go_wp2_with fail
  refine (alive_any _).mono ?_; rintro e w1 ⟨rfl, hb⟩
  have B1 := Lib.hid hb
  clear hb
  go_wp2_with fail
  refine (lives_new 64 64 (by decide) (by decide) (by decide) B1.out).mono ?_; rintro e w2 ⟨q, rfl, hs⟩
  have S2 := Lib.hid hs
  have HR := hs.refuse (H.out.below (Nat.le_refl _) hs.below).seq
  rw [show refuse ⟨64, 64, [], [], 0⟩ l = (0, ⟨64, 64, [], l, 0⟩) by unfold refuse; rw [if_neg (by simp; omega)]; simp, ← after_zero] at HR
  have HR := Lib.hid HR
  clear hs
  go_wp2_with fail
  refine HR.out.mono ?_; rintro e w3 ⟨rfl, hs⟩
  have S3 := Lib.hid hs
  clear hs S2 HR
  go_wp2_with fail
  go_loopw [5, 33] (fun n i wr => Telling w q l n i wr) (fun n i _ => l.length - (intOf i).toNat)
  case atStart => exact ⟨0, Nat.zero_le _, rfl, by rw [nos_zero]; rfl, S3.out⟩
  case round =>
    obtain ⟨j, hj, rfl, rfl, hs⟩ := hrel
    have S4 := Lib.hid hs
    have hno := nos_le l j
    have hrj : (after l j).r ≤ 1000000000000 := by simp only [after]; omega
    clear hs
    by_cases hjl : j < l.length
    · obtain ⟨a', cap', e, _, _, _, h4⟩ := H.out.below (Nat.le_refl _) S4.out.below
      injection e with e1 _ e3
      subst e1 e3
      obtain ⟨b, off, rfl, hcell⟩ := h4 j hjl
      obtain ⟨c, hc⟩ : ∃ c, l.getD j false = c := ⟨_, rfl⟩
      rw [hc] at hcell
      have hstep := nos_step hjl c hc
      clear h4
      cases c with
      | true =>
        have HR := S4.out.reserve 1 hrj
        rw [after_no hjl hc] at HR
        have HR := Lib.hid HR
        simp only [if_true] at hstep
        obtain ⟨n, hn⟩ : ∃ n, nos l j = n := ⟨_, rfl⟩
        rw [hn] at hno hstep ⊢
        have HS := Lib.hid hstep
        clear hrj hc hstep hn
        go_wp2_with fail
        refine HR.out.mono ?_; rintro e w5 ⟨rfl, hs⟩
        have S5 := Lib.hid hs
        clear hs
        go_wp2
        go_roundw
        case rel => exact ⟨j + 1, by omega, by go_num, by rw [HS.out]; go_num, S5.out⟩
        case measure => simp [intOf]; omega
      | false =>
        have HR := S4.out.reserve 1 hrj
        rw [after_yes hj hl hc, give_after hjl hc] at HR
        have HR := Lib.hid HR
        simp only [Bool.false_eq_true, if_false, Nat.add_zero] at hstep
        have HS := Lib.hid hstep
        clear hrj hc hstep
        go_wp2_with fail
        refine HR.out.mono ?_; rintro e w5 ⟨rfl, hs⟩
        have S5 := Lib.hid hs
        clear hs
        go_wp2
        go_roundw
        case rel => exact ⟨j + 1, by omega, by go_num, by rw [HS.out], S5.out⟩
        case measure => simp [intOf]; omega
    · obtain rfl : j = l.length := by omega
      have HR := S4.out.reserve 1 hrj
      rw [after_yes (Nat.le_refl _) hl (by simp [List.getD_eq_getElem?_getD])] at HR
      have e1 : ((after l l.length).give (l.length - nos l l.length) 1).r = nos l l.length := rfl
      have e2 : total ((after l l.length).give (l.length - nos l l.length) 1).l = l.length - nos l l.length + 1 := by simp only [after, St.give, put_ones, total_ones]; omega
      obtain ⟨X, hX⟩ : ∃ X, (after l l.length).give (l.length - nos l l.length) 1 = X := ⟨_, rfl⟩
      rw [hX] at HR e1 e2
      obtain ⟨n, hn⟩ : ∃ n, nos l l.length = n := ⟨_, rfl⟩
      rw [hn] at HR e1 e2 hno ⊢
      have HR := Lib.hid HR
      have E1 := Lib.hid e1; have E2 := Lib.hid e2
      have t1 : (((l.length - n : Nat) : Int) == (l.length : Int) - (n : Int)) = true := by rw [beq_iff_eq]; omega
      have t2 : ((n : Int) == (n : Int)) = true := by simp
      have t3 : (((l.length - n + 1 : Nat) : Int) == (l.length : Int) - (n : Int) + 1) = true := by rw [beq_iff_eq]; omega
      obtain ⟨y, hy⟩ : ∃ y, l.length - n = y := ⟨_, rfl⟩
      rw [hy] at HR E2 t1 t3
      have hyb : y ≤ 60 := by omega
      obtain ⟨z, hz⟩ : ∃ z, y + 1 = z := ⟨_, rfl⟩
      rw [hz] at E2 t3
      clear hrj e1 e2 hX hn hy hz
      go_wp2_with fail
      refine HR.out.mono ?_; rintro e w5 ⟨rfl, hs⟩
      have HF := hs.refused
      rw [E1.out] at HF
      have HF := Lib.hid HF
      have HG := hs.given
      rw [E2.out] at HG
      have HG := Lib.hid HG
      have S5 := Lib.hid hs
      clear hs
      go_wp2_with fail
      refine HF.out.mono ?_; rintro e w6 ⟨rfl, rfl⟩
      go_wp2_with fail
      refine HG.out.mono ?_; rintro e w7 ⟨rfl, hs⟩
      have S7 := Lib.hid hs
      clear hs
      go_wp2
      go_ret
      exact ⟨rfl, S7.out.below⟩
theorem walk_long (w : World) (a : Option Addr) (cap : Nat) (l : List Bool) (hl : 60 < l.length) :
    Calls Try.prog 5 #[.slice a l.length cap] w fun e w' => e = .returned (.bool true) ∧ Below w.heap.size w w' := by
  have t0 : decide ((60 : Int) < (l.length : Int)) = true := decide_eq_true (by omega)
  go_enter Try.func5, Try.ntmps5
  go_wp2_with fail
  refine (alive_any _).mono ?_; rintro e w1 ⟨rfl, hb⟩
  have B1 := Lib.hid hb
  clear hb
  go_wp2_with fail
  refine (lives_new 64 64 (by decide) (by decide) (by decide) B1.out).mono ?_; rintro e w2 ⟨q, rfl, hs⟩
  have S2 := Lib.hid hs
  clear hs
  go_wp2
  go_ret
  exact ⟨rfl, S2.out.below⟩
theorem walk (w : World) {a : Option Addr} {n cap : Nat} (l : List Bool) (h : FlagsAt w (.slice a n cap) l) :
    Calls Try.prog 5 #[.slice a n cap] w fun e w' => e = .returned (.bool true) ∧ Below w.heap.size w w' := by
  obtain rfl : n = l.length := by obtain ⟨_, _, e, _⟩ := h; injection e
  by_cases hl : l.length ≤ 60
  · exact walk_short w a cap l h hl
  · exact walk_long w a cap l (by omega)
end Go.Proofs.Ytnkahcfkbpbhiaa.arenaTold
