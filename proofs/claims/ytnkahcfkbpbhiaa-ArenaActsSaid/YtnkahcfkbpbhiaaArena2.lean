/- The arena (layer 4): Given, Regions: contracts. -/
import Derived.Test.YtnkahcfkbpbhiaaArena1
import Derived.Deep.RegionHeld3
namespace Go.Proofs.Ytnkahcfkbpbhiaa
open Go.RowKit
set_option linter.unusedVariables false

section
variable {w : World} {q p g rb : Nat} {tv : Value} {S lim : Nat} {T : List Bool} {r : Nat} {R : List Nat} {L : List Bool}
def Held (w : World) (q p g rb : Nat) (tv : Value) (S lim : Nat) (T : List Bool) (r : Nat) (R : List Nat) (L : List Bool) (w' : World) : Prop := Raw w' q p g rb tv S lim T r R L ∧ Below w.heap.size w w'
theorem Held.drew {w' : World} (s : Held w q p g rb tv S lim T r R L w') : Held w q p g rb tv S lim T r R L w'.drew := ⟨s.1.drew, s.2.drew⟩
theorem left_held {w' : World} (s : Held w q p g rb tv S lim T r R L w') : Calls Try.prog 32 #[.pointer (some ⟨p, 0, none⟩)] w' fun e w2 => e = .returned (.int .i64 (MarkMath.left L : Nat)) ∧ Held w q p g rb tv S lim T r R L w2 :=
  (left_any s.1.marks).mono fun e w2 k => ⟨k.1, s.1.grew k.2, s.2.trans (k.2.mono s.2.size)⟩
theorem given_raw (h : Raw w q p g rb tv S lim T r R L) (n : Nat) (hn : MarkMath.left L + n = S) (hS : S ≤ 64) : Calls Try.prog 20 #[.pointer (some ⟨q, 0, none⟩)] w fun e w' => e = .returned (.int .i64 (n : Int)) ∧ Below w.heap.size w w' := by
  obtain ⟨k, hk⟩ : ∃ k, MarkMath.left L = k := ⟨_, rfl⟩
  have HL : Hid (∀ w', Held w q p g rb tv S lim T r R L w' → Calls Try.prog 32 #[.pointer (some ⟨p, 0, none⟩)] w' fun e w2 => e = .returned (.int .i64 (k : Int)) ∧ Held w q p g rb tv S lim T r R L w2) :=
    Lib.hid fun w' s => (left_held s).mono fun e w2 x => ⟨by rw [x.1, hk], x.2⟩
  rw [hk] at hn
  have d0 := h.c0
  have d1 := h.c1
  have ST : Hid (Held w q p g rb tv S lim T r R L w) := Lib.hid ⟨h, Below.refl _ _⟩
  have hkS : k ≤ 64 := by omega
  have HN := Lib.hid hn
  clear h hk hn
  go_enter Try.func20, Try.ntmps20
  go_wp2_with fail
  go_region_held3 (fun w' => w'.cell? ⟨q, 0, none⟩ = some (.pointer (some ⟨p, 0, none⟩)) ∧ w'.cell? ⟨q, 1, none⟩ = some (.slice (some ⟨rb, 0, none⟩) S S)) (first | go_keep | exact ⟨d0, d1⟩)
    (first
      | (go_at_call 32; (first | (with_reducible refine (HL.out _ ST.out.drew).mono ?_) | (with_reducible refine (HL.out _ ST.out).mono ?_)); rintro e w5 ⟨rfl, hst⟩; have d0 := hst.1.c0; have d1 := hst.1.c1; have ST := Lib.hid hst; clear hst))
  go_wp2
  go_ret
  refine ⟨?_, ST.out.2⟩
  have := HN.out
  rw [show (S : Int) - (k : Int) = (n : Int) by omega]
  show Ending.returned (.int .i64 (IntKind.i64.wrap (n : Int))) = _
  rw [IntWalk.i64_in _ ⟨by omega, by omega⟩]

/-! ### Regions -/
theorem infoReg : (Try.prog.info? 49).map (fun i => (i.zero, i.size, i.bytes)) = some (some (.agg #[.int .i64 0, .int .i64 0]), 2, 16) := by kernel_rfl
def Listing (w : World) (q p g rb : Nat) (tv : Value) (S lim : Nat) (T : List Bool) (r : Nat) (R : List Nat) (L : List Bool) (l : List (Nat × Nat)) (v i : Value) (wr : World) : Prop :=
  ∃ k : Nat, k ≤ S ∧ i = .int .i64 (k : Int) ∧ Vec Elem.pairs wr v (ArenaMath.upto l k) ∧ (∀ b, In v b → w.heap.size ≤ b) ∧ Held w q p g rb tv S lim T r R L wr
theorem two_new (w : World) (t : TypeId) (a n g : Nat) (hg : g = w.heap.size) : Seq Elem.pairs (w.alloc (.cells #[.int .i64 (a : Int), .int .i64 (n : Int)] t)) (.slice (some ⟨g, 0, none⟩) 1 1) [(a, n)] := by
  subst hg; exact Seq.new (E := Elem.pairs) w t [(a, n)] 1
set_option maxRecDepth 100000 in
theorem regions_raw (h : Raw w q p g rb tv S lim T r R L) {l : List (Nat × Nat)} (hf : ArenaMath.Fits S l R L) (hS : S ≤ 64) : Calls Try.prog 23 #[.pointer (some ⟨q, 0, none⟩)] w fun e w' =>
    ∃ v, e = .returned v ∧ Vec Elem.pairs w' v l ∧ (∀ b, In v b → w.heap.size ≤ b) ∧ Below w.heap.size w w' := by
  obtain ⟨i0, hi, hz0, hz1, hz2⟩ := info_parts infoReg
  have d0 := h.c0
  have d1 := h.c1
  have hlt : l.length ≤ 64 := by have := ArenaMath.length_le_total hf.ok; have := hf.left; omega
  have ST : Hid (Held w q p g rb tv S lim T r R L w) := Lib.hid ⟨h, Below.refl _ _⟩
  have H0 := Lib.hid h
  have HF := Lib.hid hf
  have HLT := Lib.hid hlt
  have lenR := h.lenR
  clear h hf hlt
  go_enter Try.func23, Try.ntmps23
  go_wp2
  go_loopw [3, 14] (fun v i wr => Listing w q p g rb tv S lim T r R L l v i wr) (fun v i _ => S - (intOf i).toNat)
  case atStart => exact ⟨0, Nat.zero_le _, rfl, (by rw [ArenaMath.upto_zero]; exact Vec.nil _), (by intro b hb; cases hb), ST.out⟩
  case round =>
    obtain ⟨k, hk, rfl, hv, hin, hst⟩ := hrel
    have HV := Lib.hid hv; have HI := Lib.hid hin; have ST := Lib.hid hst
    have hup := ArenaMath.upto_len HF.out.ok k
    have hll := HLT.out
    obtain ⟨a', n', cap', rfl⟩ := hv.is
    have sr := hst.2.size
    clear hv hin hst
    by_cases hlt : k < S
    · have hcell := row_cell ST.out.1.regs k (by omega)
      obtain ⟨c, hcd⟩ : ∃ c, R.getD k 0 = c := ⟨_, rfl⟩
      rw [hcd] at hcell
      have HC := Lib.hid hcd
      clear hcd
      by_cases hc : 0 < c
      · have t1 : decide ((0 : Int) < (c : Int)) = true := decide_eq_true (by omega)
        have t2 : decide (0 < c) = true := decide_eq_true hc
        have HP := Lib.hid hc
        have hbb := Lib.hid (two_new wr 49 k c)
        clear hc
        go_wp2_with (at_builtin; refine wpList_append_vec (E := Elem.pairs) rfl (.tmp 21) (.tmp 25) 46 rfl 49 i0 (.agg #[.int .i64 0, .int .i64 0]) 16 Try.underlying46 hi hz0 hz1 hz2 rfl (.slice a' n' cap') (.slice (some ⟨wr.heap.size, 0, none⟩) 1 1) (ArenaMath.upto l k) [(k, c)] rfl rfl (HV.out.alloc _) (hbb.out _ rfl) ?_ ?_ ?_; (simp only [maxLen, List.length_cons, List.length_nil]; omega); (simp only [List.length_cons, List.length_nil]; omega); intro v' w1 hv1 hu1 hin1; have V1 := Lib.hid hv1; have U1 := Lib.hid hu1; have N1 := Lib.hid hin1; clear hv1 hu1 hin1)
        go_roundw
        case rel =>
          refine ⟨k + 1, by omega, by go_num, by rw [ArenaMath.upto_snoc HF.out HP.out HC.out]; exact V1.out, fun b hb => ?_, ?_, ?_⟩
          · rcases N1.out b hb with h | h
            · exact HI.out b h
            · exact Nat.le_trans sr (Nat.le_trans (by simp) h)
          · exact (ST.out.1.alloc _).upd U1.out (fun b hb hin => by
              have h1 := H0.out.lt hb
              have h2 := HI.out b hin
              omega)
          · exact (ST.out.2.alloc sr _).trans (U1.out.below HI.out (Nat.le_trans sr (by simp)))
        case measure => simp [intOf]; omega
      · have t1 : decide ((0 : Int) < (c : Int)) = false := decide_eq_false (by omega)
        have t2 : decide (0 < c) = false := decide_eq_false hc
        have HZ := Lib.hid (show R.getD k 0 = 0 by rw [HC.out]; omega)
        clear hc
        go_wp2
        go_roundw
        case rel => exact ⟨k + 1, by omega, by go_num, by rw [ArenaMath.upto_none HF.out HZ.out]; exact HV.out, HI.out, ST.out⟩
        case measure => simp [intOf]; omega
    · obtain rfl : k = S := by omega
      go_wp2
      go_ret
      exact ⟨_, rfl, by rw [ArenaMath.upto_all HF.out.ok] at HV; exact HV.out, HI.out, ST.out.2⟩
end
end Go.Proofs.Ytnkahcfkbpbhiaa
