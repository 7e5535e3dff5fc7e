/- The law MarkSingles, walked. -/
import Derived.Test.YtfmbfonnabebmaaMarksRel
namespace Go.Proofs.Ytfmbfonnabebmaa.markSingles
open Go.RowKit
set_option linter.unusedVariables false

theorem free_one {L : List Bool} {a : Nat} : MarkMath.allAt L a 1 false ↔ L.getD a true = false := by
  constructor
  · intro h; exact h 0 (by omega)
  · intro h j hj
    obtain rfl : j = 0 := by omega
    exact h
/-- One is free: the lowest one. -/
theorem low_one {L : List Bool} (h : 1 ≤ MarkMath.left L) : ∃ a, MarkMath.low L 1 = some a ∧ MarkMath.Low L 1 a := by
  cases hl : MarkMath.low L 1 with
  | some a => exact ⟨a, rfl, MarkMath.low_some (Nat.le_refl _) hl⟩
  | none =>
    have hn := MarkMath.low_none (Nat.le_refl _) hl
    have : false ∈ L := List.count_pos_iff.1 h
    obtain ⟨j, hj, e⟩ := List.mem_iff_getElem.1 this
    exact absurd (free_one.2 (by simp [List.getD_eq_getElem?_getD, hj, e])) (hn j)
theorem all_taken {L : List Bool} (h : MarkMath.left L = 0) : L = MarkMath.rep L.length true := by
  apply MarkMath.ext_getD
  · rw [MarkMath.length_rep]
  · intro j hj
    rw [MarkMath.getD_rep, if_pos hj, MarkMath.getD_def hj _ true]
    exact MarkMath.left_none h j
theorem none_long {L : List Bool} (h : MarkMath.left L = 0) : MarkMath.longest L = 0 := by
  refine Classical.byContradiction fun h1 => ?_
  obtain ⟨a, ha⟩ := MarkMath.longest_row (Nat.le_refl 1) (show 1 ≤ MarkMath.longest L by omega)
  have := MarkMath.left_pos (free_one.1 ha.1)
  omega
/-- One behind the other is taken. -/
def Singling (w : World) (p g : Nat) (m : Nat) (last i : Value) (wr : World) : Prop :=
  ∃ (k : Nat) (c : Int) (L : List Bool), k ≤ m ∧ i = .int .i64 (k : Int) ∧ last = .int .i64 c ∧ -1 ≤ c ∧ c ≤ 64 ∧ (∀ j : Nat, (j : Int) ≤ c → L.getD j true = true) ∧ MarkMath.left L + k = m ∧ L.length = 64 ∧ IsMarks wr p 0 g L ∧ Below w.heap.size w wr
def given (i : Nat) : List Bool := MarkMath.setAt (MarkMath.rep 64 true) 0 i false
theorem given_len {i : Nat} (h : i ≤ 64) : (given i).length = 64 := by unfold given; rw [MarkMath.length_setAt _ (by rw [MarkMath.length_rep]; omega), MarkMath.length_rep]
theorem given_at {i : Nat} (h : i < 64) : (given i).getD i false = true := by
  unfold given
  rw [MarkMath.getD_setAt _ (by rw [MarkMath.length_rep]; omega), if_neg (by omega), MarkMath.getD_rep, if_pos h]
theorem given_all {i : Nat} (h : i < 64) : MarkMath.allAt (given i) i 1 (!false) := fun j hj => by
  obtain rfl : j = 0 := by omega
  rw [Nat.add_zero, MarkMath.getD_def (by rw [given_len (by omega)]; exact h) _ false]
  exact given_at h
theorem given_next {i : Nat} (h : i < 64) : MarkMath.setAt (given i) i 1 false = given (i + 1) := by
  unfold given
  have := MarkMath.setAt_parts (L := MarkMath.rep 64 true) (a := 0) (k := i + 1) (c := i) false (by omega) (by rw [MarkMath.length_rep]; omega)
  rw [Nat.zero_add, show i + 1 - i = 1 by omega] at this
  exact this
theorem given_left : MarkMath.left (given 64) = 64 := by
  unfold given
  rw [MarkMath.left_back (by rw [MarkMath.length_rep]; omega) (fun j hj => by rw [MarkMath.getD_rep, if_pos (by omega)]), MarkMath.left_rep_true]
def Giving (w : World) (p g : Nat) (i : Value) (wr : World) : Prop := ∃ k : Nat, k ≤ 64 ∧ i = .int .i64 (k : Int) ∧ IsMarks wr p 0 g (given k) ∧ Below w.heap.size w wr

set_option maxRecDepth 100000 in
set_option maxHeartbeats 1000000 in
theorem walk_short (w : World) (A : Option Addr) (n cap : Nat) (l : List (Int × Int × Int)) (h : IsTrips w (.slice A n cap) l) (hs : l.length ≤ 100) :
    Calls Try.prog 9 #[.slice A n cap] w fun e w' => e = .returned (.bool true) ∧ Below w.heap.size w w' := by
  obtain rfl := h.1.len
  have HT := Lib.hid h
  have hs' : decide ((100 : Int) < (l.length : Int)) = false := decide_eq_false (by omega)
  clear h
  go_enter Try.func9, Try.ntmps9
  go_wp2_with fail
  refine (alive_any _).mono ?_; rintro e w1 ⟨rfl, hb⟩
  have B1 := Lib.hid hb
  have s1 := B1.out.size
  clear hb
  go_wp2_with fail
  refine (new_ok 64 (by decide) (by decide) _).mono ?_; rintro e w2 ⟨p, g, rfl, hm, hp, hg, hu⟩
  have B2 := Lib.hid (B1.out.trans (below_false hu s1)); have M2 := Lib.hid hm
  have hp' : w.heap.size ≤ p := Nat.le_trans s1 hp
  have hg' : w.heap.size ≤ g := Nat.le_trans s1 hg
  have s2 := B2.out.size
  clear hu hm hp hg
  go_wp2_with fail
  clear hs'
  go_loopw [29] (fun i wr => Marking w p g l.length i wr) (fun i _ => l.length - (intOf i).toNat)
  case atStart => exact ⟨0, Nat.zero_le _, rfl, ⟨_, M2.out, MarkMath.length_rep _ _⟩, B2.out⟩
  case round =>
    obtain ⟨k, hk, rfl, ⟨L, hm, hL⟩, hb⟩ := hrel
    have M := Lib.hid hm; have HL := Lib.hid hL; have B := Lib.hid hb
    clear hm hL hb
    have sr := B.out.size
    by_cases hlt : k < l.length
    · have hI := HT.out.getD hlt
      obtain ⟨b, off, rfl, c1, c2, c3⟩ := (HT.out.1.below (Nat.le_refl _) B.out).elem hlt
      obtain ⟨⟨x, y, z⟩, ht⟩ : ∃ t, l.getD k (0, 0, 0) = t := ⟨_, rfl⟩
      rw [ht] at c1 c2 c3 hI
      obtain ⟨wx, wy, wz⟩ := hI
      clear ht
      have HM := Lib.hid (mark_any ((M.out.alloc (.cells #[.int .i64 x, .int .i64 y, .int .i64 z] 32))) y z wy.wf wz.wf)
      clear wx wy wz
      go_wp2_with fail
      refine HM.out.mono ?_; rintro e w3 ⟨rfl, hm, hu⟩
      have B3 := Lib.hid ((B.out.alloc sr _).trans (below_one hu (Nat.le_trans sr (by simp)) hg')); have M3 := Lib.hid hm
      clear hu hm HM
      go_wp2
      go_roundw
      case rel => exact ⟨k + 1, by omega, by go_num, ⟨_, M3.out, by rw [turnL_len]; exact HL.out⟩, B3.out⟩
      case measure => simp [intOf]; omega
    · obtain rfl : k = l.length := by omega
      clear hlt hk
      obtain ⟨N, hN⟩ : ∃ N, MarkMath.left L = N := ⟨_, rfl⟩
      have hN64 : N ≤ 64 := by have := MarkMath.left_le L; rw [HL.out, hN] at this; exact this
      have HN := Lib.hid hN
      have hl := left_any M.out
      rw [hN] at hl
      have HLt := Lib.hid hl
      clear hN hl
      go_wp2_with (go_at_call 19; refine HLt.out.mono ?_; rintro e w3 ⟨rfl, hb⟩; have B3 := Lib.hid (B.out.trans (hb.mono sr)); have M3 := Lib.hid (M.out.grew hb); have s3 := B3.out.size; clear hb)
      go_loopw [8, 43] (fun c i wr => Singling w p g N c i wr) (fun _ i _ => N - (intOf i).toNat)
      case atStart => exact ⟨0, -1, L, Nat.zero_le _, rfl, rfl, by omega, by omega, fun j hj => by omega, HN.out, HL.out, M3.out, B3.out⟩
      case round =>
        obtain ⟨k, c, L3, hk, rfl, rfl, hc1, hc2, hin, hleft, hlen, hm, hb⟩ := hrel
        have M4 := Lib.hid hm; have B4 := Lib.hid hb; have HI := Lib.hid hin; have HLen := Lib.hid hlen; have HLf := Lib.hid hleft
        clear hm hb hin hlen hleft
        have s4 := B4.out.size
        by_cases hlt : k < N
        · obtain ⟨a, hlow, hlo⟩ := low_one (L := L3) (by have := HLf.out; omega)
          have hal := hlo.1.le (Nat.le_refl _)
          rw [HLen.out] at hal
          have hca : c < (a : Int) := by
            refine Int.not_le.1 fun h => ?_
            have h1 := HI.out a h
            have h2 := free_one.1 hlo.1
            rw [h1] at h2; cases h2
          have ht := take_any M4.out 1
          obtain ⟨e1, e2, e3⟩ := take_yes (L := L3) (k := 1) (by omega) (by rw [HLen.out]; omega) hlow
          rw [show ((1 : Nat) : Int) = 1 from rfl] at e1 e2 e3
          rw [e1, e2, e3] at ht
          have hleft2 := MarkMath.left_setAt (L := L3) (a := a) (k := 1) (by rw [HLen.out]; omega) hlo.1
          have hlen2 := MarkMath.length_setAt (L := L3) (a := a) (k := 1) true (by rw [HLen.out]; omega)
          have hhas : hasAll (MarkMath.setAt L3 a 1 true) [(a : Int)] = true := by
            simp only [hasAll, List.all_cons, List.all_nil, Bool.and_true]
            rw [hasAt_nat, MarkMath.getD_setAt _ (by rw [HLen.out]; omega), if_pos (by omega)]
          have hin2 : ∀ j : Nat, (j : Int) ≤ (a : Int) → (MarkMath.setAt L3 a 1 true).getD j true = true := by
            intro j hj
            rw [MarkMath.getD_setAt _ (by rw [HLen.out]; omega)]
            by_cases h : a ≤ j ∧ j < a + 1
            · rw [if_pos h]
            · rw [if_neg h]
              have := hlo.2 j (by omega)
              rw [free_one] at this
              cases hx : L3.getD j true with
              | true => rfl
              | false => exact absurd hx this
          obtain ⟨L4, hL4⟩ : ∃ L4, MarkMath.setAt L3 a 1 true = L4 := ⟨_, rfl⟩
          rw [hL4] at ht hleft2 hlen2 hhas hin2
          have HTk := Lib.hid ht; have HA := Lib.hid hhas; have HI2 := Lib.hid hin2; have HLen2 := Lib.hid (hlen2.trans HLen.out); have HLf2 := Lib.hid (show MarkMath.left L4 + (k + 1) = N by have := HLf.out; omega)
          clear ht hhas hin2 hlen2 hleft2 e1 e2 e3 hL4 hlow hlo
          go_wp2_with fail
          refine HTk.out.mono ?_; rintro e w5 ⟨rfl, hm, hu⟩
          have B5 := Lib.hid (B4.out.trans (below_one hu s4 hg')); have M5 := Lib.hid hm
          have s5 := B5.out.size
          clear hu hm HTk
          go_wp2_with (go_at_call 23; refine (has_any (M5.out.alloc _) _ _ _ [(a : Int)] (Ints.one _ _ _) (by simp) true HA.out).mono ?_; rintro e w' ⟨rfl, rfl⟩)
          go_roundw
          case rel => exact ⟨k + 1, (a : Int), L4, by omega, by go_num, rfl, by omega, by omega, HI2.out, HLf2.out, HLen2.out, M5.out.alloc _, B5.out.alloc s5 _⟩
          case measure => simp [intOf]; omega
        · obtain rfl : k = N := by omega
          have h0 : MarkMath.left L3 = 0 := by have := HLf.out; omega
          have he := all_taken h0
          rw [HLen.out] at he
          have hl1 := left_any M4.out
          rw [h0] at hl1
          have hg0 : given 0 = L3 := by unfold given; rw [MarkMath.setAt_none]; exact he.symm
          have HG := Lib.hid hg0; have HO := Lib.hid (none_long h0); have HL1 := Lib.hid hl1
          clear h0 he hl1 hg0
          go_wp2_with fail
          refine HL1.out.mono ?_; rintro e w5 ⟨rfl, hb⟩
          have B5 := Lib.hid (B4.out.trans (hb.mono s4)); have M5 := Lib.hid (M4.out.grew hb)
          have s5 := B5.out.size
          clear hb HL1
          have hl2 := longest_any M5.out
          rw [HO.out] at hl2
          have HL2 := Lib.hid hl2; clear hl2
          go_wp2_with fail
          refine HL2.out.mono ?_; rintro e w6 ⟨rfl, hb⟩
          have B6 := Lib.hid (B5.out.trans (hb.mono s5)); have M6 := Lib.hid (M5.out.grew hb)
          have s6 := B6.out.size
          clear hb HL2
          go_wp2
          go_loopw [74] (fun i wr => Giving w p g i wr) (fun i _ => 64 - (intOf i).toNat)
          case atStart => exact ⟨0, Nat.zero_le _, rfl, by rw [HG.out]; exact M6.out, B6.out⟩
          case round =>
            obtain ⟨i, hi, rfl, hm, hb⟩ := hrel
            have M7 := Lib.hid hm; have B7 := Lib.hid hb
            clear hm hb
            have s7 := B7.out.size
            by_cases hlt : i < 64
            · have hhas : hasAll (given i) [(i : Int)] = true := by
                simp only [hasAll, List.all_cons, List.all_nil, Bool.and_true]
                rw [hasAt_nat, given_at hlt]
              have hf := free_any (M7.out.alloc (.cells #[.int .i64 (i : Int)] 3)) (i : Int) 1 (wf_small i (by omega)) (by decide)
              have e1 := turnE_yes (b := false) (code := 5) (L := given i) (a := i) (k := 1) (Nat.le_refl _) (given_all hlt)
              have e2 := turnL_yes (b := false) (L := given i) (a := i) (k := 1) (Nat.le_refl _) (given_all hlt)
              rw [given_next hlt] at e2
              rw [show ((1 : Nat) : Int) = 1 from rfl] at e1 e2
              rw [e1, e2] at hf
              have HF := Lib.hid hf; have HA := Lib.hid hhas
              clear hf hhas e1 e2
              go_wp2_with (go_at_call 23; refine (has_any (M7.out.alloc _) _ _ _ [(i : Int)] (Ints.one _ _ _) (by simp) true HA.out).mono ?_; rintro e w' ⟨rfl, rfl⟩)
              refine HF.out.mono ?_; rintro e w8 ⟨rfl, hm, hu⟩
              have B8 := Lib.hid ((B7.out.alloc s7 _).trans (below_one hu (Nat.le_trans s7 (by simp)) hg')); have M8 := Lib.hid hm
              clear hu hm HF
              go_wp2
              go_roundw
              case rel => exact ⟨i + 1, by omega, by go_num, M8.out, B8.out⟩
              case measure => simp [intOf]; omega
            · obtain rfl : i = 64 := by omega
              have hl := left_any M7.out
              rw [given_left] at hl
              have HL7 := Lib.hid hl; clear hl
              go_wp2_with fail
              refine HL7.out.mono ?_; rintro e w8 ⟨rfl, hb⟩
              have B8 := Lib.hid (B7.out.trans (hb.mono s7))
              clear hb
              go_wp2
              go_ret
              exact ⟨rfl, B8.out⟩

theorem walk_long (w : World) (A : Option Addr) (n cap : Nat) (l : List (Int × Int × Int)) (h : IsTrips w (.slice A n cap) l) (hs : 100 < l.length) :
    Calls Try.prog 9 #[.slice A n cap] w fun e w' => e = .returned (.bool true) ∧ Below w.heap.size w w' := by
  obtain rfl := h.1.len
  have hs' : decide ((100 : Int) < (l.length : Int)) = true := decide_eq_true (by omega)
  clear h
  go_enter Try.func9, Try.ntmps9
  go_wp2_with fail
  refine (alive_any _).mono ?_; rintro e w1 ⟨rfl, hb⟩
  have B1 := Lib.hid hb
  have s1 := B1.out.size
  clear hb
  go_wp2_with fail
  refine (new_ok 64 (by decide) (by decide) _).mono ?_; rintro e w2 ⟨p, g, rfl, hm, hp, hg, hu⟩
  have B2 := Lib.hid (B1.out.trans (below_false hu s1))
  clear hu hm hp hg
  go_wp2
  go_ret
  exact ⟨rfl, B2.out⟩

theorem walk (w : World) {a : Option Addr} {n cap : Nat} (l : List (Int × Int × Int)) (h : IsTrips w (.slice a n cap) l) :
    Calls Try.prog 9 #[.slice a n cap] w fun e w' => e = .returned (.bool true) ∧ Below w.heap.size w w' := by
  by_cases hs : l.length ≤ 100
  · exact walk_short w a n cap l h hs
  · exact walk_long w a n cap l h (by omega)
end Go.Proofs.Ytfmbfonnabebmaa.markSingles
