/- each: the document's own calls, one behind the other. Written by genacts11.py. -/
import Derived.Test.YtolccandekgmoaaRefQ11c
namespace Go.Proofs.Ytolccandekgmoaa
open Go.RowKit QueueMath
set_option linter.unusedVariables false
set_option maxRecDepth 100000

def EaPushR (w : World) (Z : Nat → Prop) (m : Nat) (Y : QR) (l : List Int) (i : Value) (wr : World) : Prop :=
  ∃ (t : Nat) (Y1 : QR), t ≤ l.length ∧ i = .int .i64 (t : Int) ∧ pushE Y l = pushE Y1 (l.drop t) ∧ RQ Z wr m Y1 ∧ Upd (fun k => k = m) w wr ∧ Y1.all.length ≤ Y.all.length + t
set_option maxHeartbeats 4000000 in
theorem each_push {Z : Nat → Prop} {w : World} {m : Nat} {Y : QR} (h : RQ Z w m Y) (hZ : ∀ k, Z k → k < w.heap.size) {v : Value} {l : List Int} (hv : Arr w v l) (hn : Apt v l (fun k => k = m)) (hm : Y.all.length + l.length ≤ 100000) :
    Calls Try.prog 12 #[v, .func (.func 19) #[.pointer (some ⟨m, 0, none⟩)] #[]] w fun e w' => e = .returned (.int .i64 (pushE Y l).2) ∧ RQ Z w' m (pushE Y l).1 ∧ Upd (fun k => k = m) w w' := by
  obtain ⟨a, c, rfl, hc1, hc2⟩ := hv.out
  obtain ⟨n, hnl⟩ : ∃ n, l.length = n := ⟨_, rfl⟩
  rw [hnl] at hv hn hc1 hm ⊢
  have VA := Lib.hid hv; have VN := Lib.hid hn; have HL := Lib.hid hnl; have HZ := Lib.hid hZ; have HM := Lib.hid hm
  have I0 : Hid (EaPushR w Z m Y l (.int .i64 0) w) := Lib.hid ⟨0, Y, Nat.zero_le _, rfl, rfl, h, Upd.refl _ _, Nat.le_refl _⟩
  clear h hZ hv hn hnl hm
  go_enter Try.func12, Try.ntmps12
  go_wp2
  go_loopw [10] (fun i wr => EaPushR w Z m Y l i wr) (fun i _ => n - (intOf i).toNat)
  case atStart => exact I0.out
  case round =>
    clear I0
    obtain ⟨t, Y1, ht, rfl, hf, hr, u, hl⟩ := hrel
    rw [HL.out] at ht
    have U := Lib.hid u; have RR := Lib.hid hr; have HFE := Lib.hid hf; have HLL := Lib.hid hl
    by_cases htn : t < n
    · obtain ⟨b3, off3, x, ea, hx, hxm, hx64, d0⟩ := (VA.out.updA u VN.out).at (t := t) (by rw [HL.out]; exact htn)
      subst ea
      have K1 := rq_push hr (fun k hk => Nat.lt_of_lt_of_le (HZ.out k hk) u.size) hx64 (by have := HM.out; omega)
      have ED := Lib.hid (show l.drop t = x :: l.drop (t + 1) from List.drop_eq_getElem?_toList_append.trans (by rw [hx]; rfl))
      have t2 : decide ((t : Int) < (n : Int)) = true := decide_eq_true (by omega)
      have t2' : decide (t < n) = true := decide_eq_true htn
      have q3 : (0 : Int) ≤ (t : Int) := by omega
      have q4 : (t : Int) < (n : Int) := by omega
      by_cases hmem : x ∈ Y1.all
      · rw [push_there hmem] at K1
        have HME := Lib.hid hmem
        have K := Lib.hid K1
        clear hf hr u hl K1 hx hxm hx64 hmem
        have EQ : Hid (pushE Y l = (Y1, 6)) := Lib.hid (by rw [HFE.out, ED.out]; exact if_pos HME.out)
        go_wp2_with fail
        refine K.out.mono ?_; rintro e w6 ⟨rfl, hq, hu⟩
        have Q6 := Lib.hid hq; have U6 := Lib.hid (U.out.trans hu)
        clear hq hu
        go_wp2
        go_ret
        rw [EQ.out]
        exact ⟨rfl, Q6.out, U6.out⟩
      · rw [push_new hmem] at K1
        have HME := Lib.hid hmem
        have K := Lib.hid K1
        clear hf hr u hl K1 hx hxm hx64 hmem
        go_wp2_with fail
        refine K.out.mono ?_; rintro e w6 ⟨rfl, hq, hu⟩
        have NX : Hid (EaPushR w Z m Y l (.int .i64 ((t + 1 : Nat) : Int)) w6) := Lib.hid ⟨t + 1, ⟨Y1.R ++ [x], Y1.F⟩, by rw [HL.out]; exact htn, rfl, by rw [HFE.out, ED.out]; exact if_neg HME.out, hq, U.out.trans hu, by have hl := HLL.out; simp only [QR.all, List.length_append, List.length_cons, List.length_nil] at hl ⊢; omega⟩
        rw [show ((t + 1 : Nat) : Int) = (t : Int) + 1 by omega] at NX
        clear hq hu
        go_wp2
        go_roundw
        case rel => exact NX.out
        case measure => simp [intOf]; omega
    · obtain rfl : t = n := by omega
      have t2 : decide ((t : Int) < (t : Int)) = false := decide_eq_false (by omega)
      have e9 : l.drop t = [] := List.drop_eq_nil_of_le (by rw [HL.out]; exact Nat.le_refl _)
      have E9 := Lib.hid e9
      clear hf hr u hl e9
      go_wp2
      go_ret
      rw [HFE.out, E9.out]
      exact ⟨rfl, RR.out, U.out⟩
def EaRemoveR (w : World) (Z : Nat → Prop) (m : Nat) (Y : QR) (l : List Int) (i : Value) (wr : World) : Prop :=
  ∃ (t : Nat) (Y1 : QR), t ≤ l.length ∧ i = .int .i64 (t : Int) ∧ removeE Y l = removeE Y1 (l.drop t) ∧ RQ Z wr m Y1 ∧ Upd (fun k => k = m) w wr ∧ Y1.all.length ≤ Y.all.length + t
set_option maxHeartbeats 4000000 in
theorem each_remove {Z : Nat → Prop} {w : World} {m : Nat} {Y : QR} (h : RQ Z w m Y) (hZ : ∀ k, Z k → k < w.heap.size) {v : Value} {l : List Int} (hv : Arr w v l) (hn : Apt v l (fun k => k = m)) (hm : Y.all.length + l.length ≤ 100000) :
    Calls Try.prog 12 #[v, .func (.func 13) #[.pointer (some ⟨m, 0, none⟩)] #[]] w fun e w' => e = .returned (.int .i64 (removeE Y l).2) ∧ RQ Z w' m (removeE Y l).1 ∧ Upd (fun k => k = m) w w' := by
  obtain ⟨a, c, rfl, hc1, hc2⟩ := hv.out
  obtain ⟨n, hnl⟩ : ∃ n, l.length = n := ⟨_, rfl⟩
  rw [hnl] at hv hn hc1 hm ⊢
  have VA := Lib.hid hv; have VN := Lib.hid hn; have HL := Lib.hid hnl; have HZ := Lib.hid hZ; have HM := Lib.hid hm
  have I0 : Hid (EaRemoveR w Z m Y l (.int .i64 0) w) := Lib.hid ⟨0, Y, Nat.zero_le _, rfl, rfl, h, Upd.refl _ _, Nat.le_refl _⟩
  clear h hZ hv hn hnl hm
  go_enter Try.func12, Try.ntmps12
  go_wp2
  go_loopw [10] (fun i wr => EaRemoveR w Z m Y l i wr) (fun i _ => n - (intOf i).toNat)
  case atStart => exact I0.out
  case round =>
    clear I0
    obtain ⟨t, Y1, ht, rfl, hf, hr, u, hl⟩ := hrel
    rw [HL.out] at ht
    have U := Lib.hid u; have RR := Lib.hid hr; have HFE := Lib.hid hf; have HLL := Lib.hid hl
    by_cases htn : t < n
    · obtain ⟨b3, off3, x, ea, hx, hxm, hx64, d0⟩ := (VA.out.updA u VN.out).at (t := t) (by rw [HL.out]; exact htn)
      subst ea
      have K1 := rq_remove hr (fun k hk => Nat.lt_of_lt_of_le (HZ.out k hk) u.size) hx64 (by have := HM.out; omega)
      have ED := Lib.hid (show l.drop t = x :: l.drop (t + 1) from List.drop_eq_getElem?_toList_append.trans (by rw [hx]; rfl))
      have t2 : decide ((t : Int) < (n : Int)) = true := decide_eq_true (by omega)
      have t2' : decide (t < n) = true := decide_eq_true htn
      have q3 : (0 : Int) ≤ (t : Int) := by omega
      have q4 : (t : Int) < (n : Int) := by omega
      by_cases hmem : x ∈ Y1.all
      · rw [remove_there hmem] at K1
        have HME := Lib.hid hmem
        have K := Lib.hid K1
        clear hf hr u hl K1 hx hxm hx64 hmem
        go_wp2_with fail
        refine K.out.mono ?_; rintro e w6 ⟨rfl, hq, hu⟩
        have NX : Hid (EaRemoveR w Z m Y l (.int .i64 ((t + 1 : Nat) : Int)) w6) := Lib.hid ⟨t + 1, ⟨QueueMath.out Y1.R x, QueueMath.out Y1.F x⟩, by rw [HL.out]; exact htn, rfl, by rw [HFE.out, ED.out]; exact if_pos HME.out, hq, U.out.trans hu, by have hl := HLL.out; have y1 := out_len Y1.R x; have y2 := out_len Y1.F x; simp only [QR.all, List.length_append] at hl ⊢; omega⟩
        rw [show ((t + 1 : Nat) : Int) = (t : Int) + 1 by omega] at NX
        clear hq hu
        go_wp2
        go_roundw
        case rel => exact NX.out
        case measure => simp [intOf]; omega
      · rw [remove_none hmem] at K1
        have HME := Lib.hid hmem
        have K := Lib.hid K1
        clear hf hr u hl K1 hx hxm hx64 hmem
        have EQ : Hid (removeE Y l = (Y1, 5)) := Lib.hid (by rw [HFE.out, ED.out]; exact if_neg HME.out)
        go_wp2_with fail
        refine K.out.mono ?_; rintro e w6 ⟨rfl, hq, hu⟩
        have Q6 := Lib.hid hq; have U6 := Lib.hid (U.out.trans hu)
        clear hq hu
        go_wp2
        go_ret
        rw [EQ.out]
        exact ⟨rfl, Q6.out, U6.out⟩
    · obtain rfl : t = n := by omega
      have t2 : decide ((t : Int) < (t : Int)) = false := decide_eq_false (by omega)
      have e9 : l.drop t = [] := List.drop_eq_nil_of_le (by rw [HL.out]; exact Nat.le_refl _)
      have E9 := Lib.hid e9
      clear hf hr u hl e9
      go_wp2
      go_ret
      rw [HFE.out, E9.out]
      exact ⟨rfl, RR.out, U.out⟩
end Go.Proofs.Ytolccandekgmoaa
