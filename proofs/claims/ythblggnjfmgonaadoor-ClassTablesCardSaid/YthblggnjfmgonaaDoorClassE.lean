/- The program's classes: All: contract. -/
import Derived.Test.YthblggnjfmgonaaDoorClassD
import Derived.Test.YthblggnjfmgonaaDoorAllC
namespace Go.Proofs.YthblggnjfmgonaaDoor
open Go.RowKit ClassMath
set_option linter.unusedVariables false

/-- What was picked so far. -/
def Picked (w : World) (nn : Nat) (l : List Int) (v i : Value) (wr : World) : Prop :=
  ∃ j : Nat, j ≤ nn ∧ i = .int .i64 (j : Int) ∧ Vec Elem.u64s wr v ((l.take j).filterMap pick) ∧ (∀ b, In v b → w.heap.size ≤ b) ∧ Below w.heap.size w wr
set_option maxRecDepth 100000 in
set_option maxHeartbeats 1000000 in
theorem all_some {w : World} (L : Lay w) {a : Option Addr} {nn cap : Nat} {l : List Int} (h : NumsAt w .i64 (.slice a nn cap) l) (hlen : nn ≤ 300) (hl0 : ¬ nn = 0) :
    Calls Tryd.prog 19 #[.slice a nn cap] w fun e w' => ∃ a' n' cap', e = .returned (.slice a' n' cap') ∧ Seq Elem.u64s w' (.slice a' n' cap') (allOf l) ∧ cap' ≤ 9223372036854775807 ∧ n' ≤ cap' ∧ Below w.heap.size w w' := by
  obtain ⟨i0, hi, hz0, hz1, hz2⟩ := info_parts infoU64
  have HNN : Hid (nn = l.length) := Lib.hid h.seqI.len
  have HL3 : Hid (l.length ≤ 300) := Lib.hid (by rw [← HNN.out]; exact hlen)
  have N0 := Lib.hid h
  have HL := Lib.hid L
  have t0 : ((nn : Int) == 0) = false := by
    have : ¬ (nn : Int) = 0 := by omega
    simpa using this
  have hne : ¬ l = [] := by intro x; have := HNN.out; rw [x] at this; exact hl0 this
  have HNE := Lib.hid hne
  clear h hl0 hne
  go_enter Tryd.func19, Tryd.ntmps19
  go_wp2
  go_loopw [4, 16] (fun v i wr => Picked w nn l v i wr) (fun v i _ => nn - (intOf i).toNat)
  case atStart => exact ⟨0, Nat.zero_le _, rfl, Vec.nil _, (by intro b hb; cases hb), Below.refl _ _⟩
  case round =>
    obtain ⟨j, hj, rfl, hv, hin, hb⟩ := hrel
    obtain ⟨a', cap', rfl, hvc1, hvc2⟩ := hv.slice'
    obtain ⟨n', hn'⟩ : ∃ x, ((l.take j).filterMap pick).length = x := ⟨_, rfl⟩
    have hn3 : n' ≤ 300 := by rw [← hn']; exact picked_length l j HL3.out
    rw [hn'] at hv hin hvc1
    rw [hn']
    have V := Lib.hid hv; have N := Lib.hid hin; have B := Lib.hid hb; have HN := Lib.hid hn'
    have sr := hb.size
    have NR := Lib.hid (N0.out.below (Nat.le_refl _) hb)
    have LR := Lib.hid (HL.out.below hb)
    clear hv hin hb hn'
    by_cases hjl : j < nn
    · obtain ⟨x, hx⟩ : ∃ x, l[j]? = some x := ⟨l[j]'(by rw [← HNN.out]; exact hjl), List.getElem?_eq_getElem _⟩
      obtain ⟨b2, off2, rfl, hcell⟩ := NR.out.seqI.elem hx
      have d0 := hcell 0 (.int .i64 x) rfl
      simp only [Elem.ints, Nat.add_zero, Nat.mul_one] at d0
      have T := Lib.hid (picked_more hx)
      clear hcell hx
      have q2 : decide ((j : Int) < (nn : Int)) = true := decide_eq_true (by omega)
      have q3 : (0 : Int) ≤ (j : Int) := by omega
      have q4 : (j : Int) < (nn : Int) := by omega
      by_cases hx1 : 0 ≤ x ∧ x < 12
      · obtain ⟨y, rfl⟩ := Int.eq_ofNat_of_zero_le hx1.1
        have hy : y < 12 := by omega
        rw [pick_yes hy] at T
        have HS := size_ok LR.out y hy
        have zb := (size_bounds hy).2
        obtain ⟨sy, hsy⟩ : ∃ s, sizeAt y = s := ⟨_, rfl⟩
        rw [hsy] at HS T zb
        have HSH := Lib.hid HS
        clear hx1 hsy HS
        go_wp2_with fail
        refine HSH.out.mono ?_; rintro e w5 ⟨rfl, hb5⟩
        have B5 := Lib.hid (B.out.trans (hb5.mono sr))
        have V5 := Lib.hid (V.out.upd (updFalse_of hb5) (fun _ _ => id))
        have s5 := B5.out.size
        clear hb5
        go_wp2_with (at_builtin; refine wpList_append_vec (E := Elem.u64s) rfl (.tmp 27) (.tmp 29) 33 rfl 22 i0 (.int .u64 0) 8 Tryd.underlying33 hi hz0 hz1 hz2 rfl (.slice a' n' cap') (.slice (some ⟨w5.heap.size, 0, none⟩) 1 1) ((l.take j).filterMap pick) [sy] rfl rfl (V5.out.alloc _) (u64_oneAt w5 _ sy _ rfl) ?_ ?_ ?_; (have := HN.out; simp only [maxLen, List.length_cons, List.length_nil]; omega); (have := HN.out; simp only [List.length_cons, List.length_nil]; omega); intro v2 w2' hv2 hu2 hin2; have V2 := Lib.hid hv2; have BZ := Lib.hid (vec_below (B5.out.alloc s5 _) (Nat.le_trans s5 (by simp)) N.out hu2); have N2 := Lib.hid hin2; clear hv2 hu2 hin2)
        go_roundw
        case rel =>
          refine ⟨j + 1, by omega, by go_num, by rw [T.out]; exact V2.out, fun b hb => ?_, BZ.out⟩
          rcases N2.out b hb with x | x
          · exact N.out b x
          · simp at x; omega
        case measure => simp [intOf]; omega
      · rw [pick_no (by omega)] at T
        have HS := Lib.hid (size_no (w := wr) x (by omega))
        clear hx1
        go_wp2_with fail
        refine HS.out.mono ?_; rintro e w5 ⟨rfl, hb5⟩
        have B5 := Lib.hid (B.out.trans (hb5.mono sr))
        have V5 := Lib.hid (V.out.upd (updFalse_of hb5) (fun _ _ => id))
        clear hb5
        go_wp2
        go_roundw
        case rel => exact ⟨j + 1, by omega, by go_num, by rw [T.out]; simpa [HN.out] using V5.out, N.out, B5.out⟩
        case measure => simp [intOf]; omega
    · have hjn : j = nn := by omega
      have q2 : decide ((j : Int) < (nn : Int)) = false := decide_eq_false (by omega)
      have VW := V.out.seq
      rw [show l.take j = l by rw [hjn, HNN.out, List.take_length], ← allOf_some HNE.out] at VW
      go_wp2
      go_ret
      exact ⟨_, _, _, rfl, VW, by omega, hvc1, B.out⟩
set_option maxRecDepth 100000 in
set_option maxHeartbeats 1000000 in
theorem all_none {w : World} (L : Lay w) {a : Option Addr} {cap : Nat} :
    Calls Tryd.prog 19 #[.slice a 0 cap] w fun e w' => ∃ a' n' cap', e = .returned (.slice a' n' cap') ∧ Seq Elem.u64s w' (.slice a' n' cap') (allOf []) ∧ cap' ≤ 9223372036854775807 ∧ n' ≤ cap' ∧ Below w.heap.size w w' := by
  obtain ⟨d0, d1, d2, d3, d4, d5, d6, d7, d8, d9, d10, d11⟩ := tab_cells L
  clear L
  go_enter Tryd.func19, Tryd.ntmps19
  go_wp2
  go_ret
  exact ⟨_, 12, 12, rfl, Seq.new w 51 sizes 12, by decide, by decide, (Below.refl _ w).alloc (Nat.le_refl _) _⟩
theorem all_any {w : World} (L : Lay w) : AllC w := fun w' hb a n cap l h hn => by
  by_cases h0 : n = 0
  · have hl := h.seqI.len
    have : l = [] := List.length_eq_zero_iff.1 (by omega)
    subst this
    subst h0
    exact all_none (L.below hb)
  · exact all_some (L.below hb) h hn h0
end Go.Proofs.YthblggnjfmgonaaDoor
