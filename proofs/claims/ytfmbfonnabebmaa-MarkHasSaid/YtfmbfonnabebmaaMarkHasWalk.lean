/- The law MarkHas, walked. -/
import Derived.Test.YtfmbfonnabebmaaMarksRel
namespace Go.Proofs.Ytfmbfonnabebmaa.markHas
open Go.RowKit
set_option linter.unusedVariables false

theorem take_snoc {l : List Int} {k : Nat} (h : k < l.length) : l.take (k + 1) = l.take k ++ [l.getD k 0] := by
  rw [List.take_succ_eq_append_getElem h, List.getD_eq_getElem?_getD, List.getElem?_eq_getElem h]; rfl
theorem hasAll_snoc (L : List Bool) {l : List Int} {k : Nat} (h : k < l.length) : hasAll L (l.take (k + 1)) = (hasAll L (l.take k) && hasAll L [l.getD k 0]) := by
  rw [take_snoc h]; simp [hasAll]
def Asking (w : World) (p g : Nat) (L : List Bool) (l : List Int) (e i : Value) (wr : World) : Prop :=
  ∃ k : Nat, k ≤ l.length ∧ i = .int .i64 (k : Int) ∧ (∃ c : Bool, e = .bool c ∧ hasAll L (l.take k) = c) ∧ IsMarks wr p 0 g L ∧ Below w.heap.size w wr

set_option maxRecDepth 100000 in
set_option maxHeartbeats 1000000 in
theorem walk_short (w : World) (A : Option Addr) (n cap : Nat) (l : List (Int × Int × Int)) (h : IsTrips w (.slice A n cap) l) (A2 : Option Addr) (n2 cap2 : Nat) (l2 : List Int) (h2 : IsInts w (.slice A2 n2 cap2) l2) (hs : l.length ≤ 100) (hs2 : l2.length ≤ 100) :
    Calls Try.prog 8 #[.slice A n cap, .slice A2 n2 cap2] w fun e w' => e = .returned (.bool true) ∧ Below w.heap.size w w' := by
  obtain rfl := h.1.len
  obtain rfl := h2.1.len
  have HT := Lib.hid h
  have H2 := Lib.hid h2
  have hs' : decide ((100 : Int) < (l.length : Int)) = false := decide_eq_false (by omega)
  have hs2' : decide ((100 : Int) < (l2.length : Int)) = false := decide_eq_false (by omega)
  clear h h2
  go_enter Try.func8, Try.ntmps8
  go_wp2_with fail
  refine (alive_any _).mono ?_; rintro e w1 ⟨rfl, hb⟩
  have B1 := Lib.hid hb
  have s1 := B1.out.size
  clear hb
  go_wp2_with fail
  refine (new_ok 64 (by decide) (by decide) _).mono ?_; rintro e w2 ⟨p, g, rfl, hm, hp, hg, hu⟩
  have B2 := Lib.hid (B1.out.trans (below_false hu s1)); have M2 := Lib.hid hm
  have hp' : w.heap.size ≤ p := Nat.le_trans s1 hp
  have hg' : w.heap.size ≤ g := Nat.le_trans s1 hg
  have s2 := B2.out.size
  clear hu hm hp hg
  go_wp2_with fail
  clear hs' hs2'
  go_loopw [34] (fun i wr => Marking w p g l.length i wr) (fun i _ => l.length - (intOf i).toNat)
  case atStart => exact ⟨0, Nat.zero_le _, rfl, ⟨_, M2.out, MarkMath.length_rep _ _⟩, B2.out⟩
  case round =>
    obtain ⟨k, hk, rfl, ⟨L, hm, hL⟩, hb⟩ := hrel
    have M := Lib.hid hm; have HL := Lib.hid hL; have B := Lib.hid hb
    clear hm hL hb
    have sr := B.out.size
    by_cases hlt : k < l.length
    · have hI := HT.out.getD hlt
      obtain ⟨b, off, rfl, c1, c2, c3⟩ := (HT.out.1.below (Nat.le_refl _) B.out).elem hlt
      obtain ⟨⟨x, y, z⟩, ht⟩ : ∃ t, l.getD k (0, 0, 0) = t := ⟨_, rfl⟩
      rw [ht] at c1 c2 c3 hI
      obtain ⟨wx, wy, wz⟩ := hI
      clear ht
      have HM := Lib.hid (mark_any ((M.out.alloc (.cells #[.int .i64 x, .int .i64 y, .int .i64 z] 32))) y z wy.wf wz.wf)
      clear wx wy wz
      go_wp2_with fail
      refine HM.out.mono ?_; rintro e w3 ⟨rfl, hm, hu⟩
      have B3 := Lib.hid ((B.out.alloc sr _).trans (below_one hu (Nat.le_trans sr (by simp)) hg')); have M3 := Lib.hid hm
      clear hu hm HM
      go_wp2
      go_roundw
      case rel => exact ⟨k + 1, by omega, by go_num, ⟨_, M3.out, by rw [turnL_len]; exact HL.out⟩, B3.out⟩
      case measure => simp [intOf]; omega
    · obtain rfl : k = l.length := by omega
      clear hlt hk
      go_wp2
      go_loopw [9, 47] (fun e i wr => Asking w p g L l2 e i wr) (fun _ i _ => l2.length - (intOf i).toNat)
      case atStart => exact ⟨0, Nat.zero_le _, rfl, ⟨true, rfl, rfl⟩, M.out, B.out⟩
      case round =>
        obtain ⟨k, hk, rfl, ⟨c, rfl, hc⟩, hm, hb⟩ := hrel
        have M3 := Lib.hid hm; have B3 := Lib.hid hb; have HC := Lib.hid hc
        clear hm hb hc
        have s3 := B3.out.size
        by_cases hlt : k < l2.length
        · obtain ⟨b, off, rfl, c1⟩ := (H2.out.1.below (Nat.le_refl _) B3.out).elem hlt
          have HS := Lib.hid (hasAll_snoc L hlt)
          obtain ⟨x, hx⟩ : ∃ t, l2.getD k 0 = t := ⟨_, rfl⟩
          rw [hx] at c1 HS
          rw [HC.out] at HS
          obtain ⟨q, hq⟩ : ∃ q, hasAll L [x] = q := ⟨_, rfl⟩
          rw [hq] at HS
          have HQ := Lib.hid hq
          clear hx hq
          cases c with
          | true =>
            go_wp2_with (go_at_call 23; refine (has_any (M3.out.alloc _) _ _ _ [x] (Ints.one _ _ _) (by simp) q HQ.out).mono ?_; rintro e w' ⟨rfl, rfl⟩)
            go_roundw
            case rel => exact ⟨k + 1, by omega, by go_num, ⟨q, rfl, by rw [HS.out]; rfl⟩, M3.out.alloc _, B3.out.alloc s3 _⟩
            case measure => simp [intOf]; omega
          | false =>
            go_wp2
            go_roundw
            case rel => exact ⟨k + 1, by omega, by go_num, ⟨false, rfl, by rw [HS.out]; rfl⟩, M3.out, B3.out⟩
            case measure => simp [intOf]; omega
        · obtain rfl : k = l2.length := by omega
          have hc := HC.out
          rw [List.take_length] at hc
          have HA := Lib.hid (has_any M3.out _ _ _ l2 (H2.out.1.below (Nat.le_refl _) B3.out) (by omega) c hc)
          have hcc : (c == c) = true := by simp
          clear hc
          go_wp2_with (go_at_call 23; refine HA.out.mono ?_; rintro e w' ⟨rfl, rfl⟩)
          go_ret
          exact ⟨rfl, B3.out⟩

theorem walk_long (w : World) (A : Option Addr) (n cap : Nat) (l : List (Int × Int × Int)) (h : IsTrips w (.slice A n cap) l) (A2 : Option Addr) (n2 cap2 : Nat) (l2 : List Int) (h2 : IsInts w (.slice A2 n2 cap2) l2) (hs : 100 < l.length ∨ 100 < l2.length) :
    Calls Try.prog 8 #[.slice A n cap, .slice A2 n2 cap2] w fun e w' => e = .returned (.bool true) ∧ Below w.heap.size w w' := by
  obtain rfl := h.1.len
  obtain rfl := h2.1.len
  clear h h2
  by_cases hl : 100 < l.length
  · have hs' : decide ((100 : Int) < (l.length : Int)) = true := decide_eq_true (by omega)
    go_enter Try.func8, Try.ntmps8
    go_wp2_with fail
    refine (alive_any _).mono ?_; rintro e w1 ⟨rfl, hb⟩
    have B1 := Lib.hid hb
    have s1 := B1.out.size
    clear hb
    go_wp2_with fail
    refine (new_ok 64 (by decide) (by decide) _).mono ?_; rintro e w2 ⟨p, g, rfl, hm, hp, hg, hu⟩
    have B2 := Lib.hid (B1.out.trans (below_false hu s1))
    clear hu hm hp hg
    go_wp2
    go_ret
    exact ⟨rfl, B2.out⟩
  · have hs' : decide ((100 : Int) < (l.length : Int)) = false := decide_eq_false (by omega)
    have hs2' : decide ((100 : Int) < (l2.length : Int)) = true := decide_eq_true (by omega)
    go_enter Try.func8, Try.ntmps8
    go_wp2_with fail
    refine (alive_any _).mono ?_; rintro e w1 ⟨rfl, hb⟩
    have B1 := Lib.hid hb
    have s1 := B1.out.size
    clear hb
    go_wp2_with fail
    refine (new_ok 64 (by decide) (by decide) _).mono ?_; rintro e w2 ⟨p, g, rfl, hm, hp, hg, hu⟩
    have B2 := Lib.hid (B1.out.trans (below_false hu s1))
    clear hu hm hp hg
    go_wp2
    go_ret
    exact ⟨rfl, B2.out⟩

theorem walk (w : World) {a : Option Addr} {n cap : Nat} (l : List (Int × Int × Int)) (h : IsTrips w (.slice a n cap) l) {a2 : Option Addr} {n2 cap2 : Nat} (l2 : List Int) (h2 : IsInts w (.slice a2 n2 cap2) l2) :
    Calls Try.prog 8 #[.slice a n cap, .slice a2 n2 cap2] w fun e w' => e = .returned (.bool true) ∧ Below w.heap.size w w' := by
  by_cases hs : l.length ≤ 100 ∧ l2.length ≤ 100
  · exact walk_short w a n cap l h a2 n2 cap2 l2 h2 hs.1 hs.2
  · exact walk_long w a n cap l h a2 n2 cap2 l2 h2 (by omega)
end Go.Proofs.Ytfmbfonnabebmaa.markHas
