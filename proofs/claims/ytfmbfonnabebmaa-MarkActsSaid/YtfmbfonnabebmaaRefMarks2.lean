/- The document's own answer for layer 3: Take, Left, Longest: contracts. -/
import Derived.Test.YtfmbfonnabebmaaRefMarks
namespace Go.Proofs.Ytfmbfonnabebmaa
open Go.RowKit
set_option linter.unusedVariables false

def TakeRel (L : List Bool) (k : Nat) (i : Value) : Prop := ∃ j : Nat, j + k ≤ L.length + 1 ∧ i = .int .i64 (j : Int) ∧ ∀ b, b < j → ¬ MarkMath.allAt L b k false
theorem ref_take_in {w : World} {p g : Nat} {L : List Bool} (h : IsRef w p g L) (k : Nat) (hk1 : 1 ≤ k) (hk2 : k ≤ L.length) :
    Calls Try.prog 18 #[.pointer (some ⟨p, 0, none⟩), .int .i64 (k : Int)] w (RefWrote w p g (takeL L k) (.tuple #[.int .i64 (takeA L k), .int .i64 (takeE L k)])) := by
  have hb := h.big
  have hc : w.cell? ⟨p, 0, none⟩ = some (.slice (some ⟨g, 0, none⟩) L.length L.length) := h.head.cell 0
  have H := Lib.hid h
  clear h
  have g0 : decide ((k : Int) < 1) = false := decide_eq_false (by omega)
  have g1 : decide (L.length < k) = false := decide_eq_false (by omega)
  go_enter Try.func18, Try.ntmps18
  go_wp2
  go_loop [6] (fun i => TakeRel L k i) (fun i => L.length + 1 - (intOf i).toNat)
  case atStart => exact ⟨0, by omega, rfl, fun b hb => by omega⟩
  case round =>
    obtain ⟨j, hj, rfl, hn⟩ := hrel
    by_cases hlt : j + k ≤ L.length
    · by_cases hf : MarkMath.allAt L j k false
      · have HA := Lib.hid (ref_all H.out j k hlt false true (decide_eq_true hf))
        have HS := Lib.hid (ref_set H.out j k hlt true)
        have E := Lib.hid (take_yes hk1 hk2 (MarkMath.low_of hk1 ⟨hf, hn⟩))
        clear hf hn
        go_wp2_with (first | (go_at_call 27; refine HA.out.mono ?_; rintro e w' ⟨rfl, rfl⟩) | (go_at_call 28; refine HS.out.mono ?_; rintro e w' ⟨rfl, hm⟩; have HM := Lib.hid hm; clear hm))
        go_ret2
        exact ⟨by rw [E.out.1, E.out.2.1]; rfl, by rw [E.out.2.2]; exact HM.out.1, HM.out.2⟩
      · have HA := Lib.hid (ref_all H.out j k hlt false false (decide_eq_false hf))
        have HN := Lib.hid hn; have HF := Lib.hid hf
        clear hn hf
        go_wp2_with (go_at_call 27; refine HA.out.mono ?_; rintro e w' ⟨rfl, rfl⟩)
        go_round
        case rel =>
          refine ⟨j + 1, by omega, by go_num, fun b hb => ?_⟩
          rcases Nat.lt_or_ge b j with h1 | h1
          · exact HN.out b h1
          · obtain rfl : b = j := by omega
            exact HF.out
        case measure => simp [intOf]; omega
    · have E := Lib.hid (take_full hk1 hk2 (MarkMath.low_no hk1 (fun b hb' => by
        rcases Nat.lt_or_ge b j with h1 | h1
        · exact hn b h1 hb'
        · have := hb'.le hk1; omega)))
      have hlt' : L.length < j + k := by omega
      clear hn hlt
      go_wp2
      go_ret2
      exact ⟨by rw [E.out.1, E.out.2.1]; rfl, by rw [E.out.2.2]; exact H.out, Upd.refl _ _⟩
theorem ref_take_far {w : World} {p g : Nat} {L : List Bool} (h : IsRef w p g L) (k : Int) (hw : I64 k) (hk : ¬ InRow L k) :
    Calls Try.prog 18 #[.pointer (some ⟨p, 0, none⟩), .int .i64 k] w fun e w' => e = .returned (.tuple #[.int .i64 0, .int .i64 2]) ∧ w = w' := by
  have hb := h.big
  have hc : w.cell? ⟨p, 0, none⟩ = some (.slice (some ⟨g, 0, none⟩) L.length L.length) := h.head.cell 0
  clear h
  unfold InRow at hk
  by_cases h1 : k < 1
  · clear hk hw
    go_enter Try.func18, Try.ntmps18
    go_wp2
    go_ret2
    exact ⟨rfl, rfl⟩
  · have h1' : 1 ≤ k := by omega
    have h2 : (L.length : Int) < k := by omega
    clear hk hw h1
    go_enter Try.func18, Try.ntmps18
    go_wp2
    go_ret2
    exact ⟨rfl, rfl⟩
theorem ref_take {w : World} {p g : Nat} {L : List Bool} (h : IsRef w p g L) (k : Int) (hw : I64 k) :
    Calls Try.prog 18 #[.pointer (some ⟨p, 0, none⟩), .int .i64 k] w (RefWrote w p g (takeL L k) (.tuple #[.int .i64 (takeA L k), .int .i64 (takeE L k)])) := by
  by_cases hk : InRow L k
  · obtain ⟨h1, h2⟩ := hk
    obtain ⟨k, rfl⟩ := Int.eq_ofNat_of_zero_le (show 0 ≤ k by omega)
    exact ref_take_in h k (by omega) (by omega)
  · refine (ref_take_far h k hw hk).mono ?_
    rintro e w' ⟨rfl, rfl⟩
    obtain ⟨e1, e2, e3⟩ := take_out hk
    exact ⟨by rw [e1, e2], by rw [e3]; exact h, Upd.refl _ _⟩

theorem drop_cons {L : List Bool} {k : Nat} (h : k < L.length) : L.drop k = L.getD k false :: L.drop (k + 1) := by
  rw [List.drop_eq_getElem_cons h, List.getD_eq_getElem?_getD, List.getElem?_eq_getElem h]; rfl
def LeftRel (L : List Bool) (n i : Value) : Prop := ∃ j c : Nat, j ≤ L.length ∧ c ≤ j ∧ i = .int .i64 (j : Int) ∧ n = .int .i64 (c : Int) ∧ c + MarkMath.left (L.drop j) = MarkMath.left L
theorem ref_left {w : World} {p g : Nat} {L : List Bool} (h : IsRef w p g L) :
    Calls Try.prog 20 #[.pointer (some ⟨p, 0, none⟩)] w fun e w' => e = .returned (.int .i64 (MarkMath.left L : Nat)) ∧ w = w' := by
  have hb := h.big
  have hc : w.cell? ⟨p, 0, none⟩ = some (.slice (some ⟨g, 0, none⟩) L.length L.length) := h.head.cell 0
  have H := Lib.hid h
  clear h
  go_enter Try.func20, Try.ntmps20
  go_wp2
  go_loop [3, 11] (fun n i => LeftRel L n i) (fun _ i => L.length - (intOf i).toNat)
  case atStart => exact ⟨0, 0, Nat.zero_le _, Nat.le_refl _, rfl, rfl, by simp⟩
  case round =>
    obtain ⟨j, c, hj, hcj, rfl, rfl, hs⟩ := hrel
    have HS := Lib.hid hs; clear hs
    by_cases hlt : j < L.length
    · have hcell := H.out.row.cell j hlt
      have HD := Lib.hid (drop_cons hlt)
      obtain ⟨x, hx⟩ : ∃ x, L.getD j false = x := ⟨_, rfl⟩
      rw [hx] at hcell HD
      clear hx
      cases x with
      | false =>
        go_wp2
        go_round
        case rel => exact ⟨j + 1, c + 1, by omega, by omega, by go_num, by go_num, by rw [← HS.out, HD.out]; simp [MarkMath.left]; omega⟩
        case measure => simp [intOf]; omega
      | true =>
        go_wp2
        go_round
        case rel => exact ⟨j + 1, c, by omega, by omega, by go_num, rfl, by rw [← HS.out, HD.out]; simp [MarkMath.left]⟩
        case measure => simp [intOf]; omega
    · obtain rfl : j = L.length := by omega
      go_wp2
      go_ret
      refine ⟨?_, rfl⟩
      rw [← HS.out, List.drop_length]
      rfl
def LongRel (L : List Bool) (n m i : Value) : Prop := ∃ j c d : Nat, j ≤ L.length ∧ c ≤ j ∧ d ≤ j ∧ i = .int .i64 (j : Int) ∧ n = .int .i64 (c : Int) ∧ m = .int .i64 (d : Int) ∧ MarkMath.lng c d (L.drop j) = MarkMath.longest L
theorem ref_longest {w : World} {p g : Nat} {L : List Bool} (h : IsRef w p g L) :
    Calls Try.prog 22 #[.pointer (some ⟨p, 0, none⟩)] w fun e w' => e = .returned (.int .i64 (MarkMath.longest L : Nat)) ∧ w = w' := by
  have hb := h.big
  have hc : w.cell? ⟨p, 0, none⟩ = some (.slice (some ⟨g, 0, none⟩) L.length L.length) := h.head.cell 0
  have H := Lib.hid h
  clear h
  go_enter Try.func22, Try.ntmps22
  go_wp2
  go_loop [3, 4, 12] (fun n m i => LongRel L n m i) (fun _ _ i => L.length - (intOf i).toNat)
  case atStart => exact ⟨0, 0, 0, Nat.zero_le _, Nat.le_refl _, Nat.le_refl _, rfl, rfl, rfl, rfl⟩
  case round =>
    obtain ⟨j, c, d, hj, hcj, hdj, rfl, rfl, rfl, hs⟩ := hrel
    have HS := Lib.hid hs; clear hs
    by_cases hlt : j < L.length
    · have hcell := H.out.row.cell j hlt
      have HD := Lib.hid (drop_cons hlt)
      obtain ⟨x, hx⟩ : ∃ x, L.getD j false = x := ⟨_, rfl⟩
      rw [hx] at hcell HD
      clear hx
      cases x with
      | false =>
        by_cases hm : d < c + 1
        · have HE : Hid (MarkMath.lng (c + 1) (c + 1) (L.drop (j + 1)) = MarkMath.longest L) := Lib.hid (by rw [← HS.out, HD.out]; simp only [MarkMath.lng, cond_false]; rw [Nat.max_eq_right (by omega)])
          go_wp2
          go_round
          case rel => exact ⟨j + 1, c + 1, c + 1, by omega, by omega, by omega, by go_num, by go_num, by go_num, HE.out⟩
          case measure => simp [intOf]; omega
        · have HE : Hid (MarkMath.lng (c + 1) d (L.drop (j + 1)) = MarkMath.longest L) := Lib.hid (by rw [← HS.out, HD.out]; simp only [MarkMath.lng, cond_false]; rw [Nat.max_eq_left (by omega)])
          have hm' : c + 1 ≤ d := by omega
          clear hm
          go_wp2
          go_round
          case rel => exact ⟨j + 1, c + 1, d, by omega, by omega, by omega, by go_num, by go_num, rfl, HE.out⟩
          case measure => simp [intOf]; omega
      | true =>
        have HE : Hid (MarkMath.lng 0 d (L.drop (j + 1)) = MarkMath.longest L) := Lib.hid (by rw [← HS.out, HD.out]; simp only [MarkMath.lng, cond_true]; rw [Nat.max_eq_left (by omega)])
        go_wp2
        go_round
        case rel => exact ⟨j + 1, 0, d, by omega, by omega, by omega, by go_num, rfl, rfl, HE.out⟩
        case measure => simp [intOf]; omega
    · obtain rfl : j = L.length := by omega
      go_wp2
      go_ret
      refine ⟨?_, rfl⟩
      rw [← HS.out, List.drop_length]
      rfl
end Go.Proofs.Ytfmbfonnabebmaa
