/- The law MarkLowest, walked. -/
import Derived.Test.YtfmbfonnabebmaaMarksRel
import Derived.Deep.RegionHeld3
namespace Go.Proofs.Ytfmbfonnabebmaa.markLowest
open Go.RowKit
set_option linter.unusedVariables false

theorem u8_bd {n : Int} (h : (Lit.int .u8 n).wf = true) : 0 ≤ n ∧ n ≤ 255 := by
  simp [Lit.wf, IntKind.min, IntKind.max, IntKind.signed, IntKind.bits] at h; omega
theorem boxed_below {w w' : World} {b B : Nat} {t : TypeId} {v : Value} (h : Boxed w b t v) (hb : Below B w w') (hB : b < B) : Boxed w' b t v := (hb.block b hB).trans h

/-! ### The law's own closure: are so many from a place on free? -/
def FreeRel (w : World) (p g bk bm : Nat) (L : List Bool) (K a : Nat) (i : Value) (wr : World) : Prop :=
  ∃ j : Nat, j ≤ K ∧ a + j ≤ 64 ∧ i = .int .i64 ((a + j : Nat) : Int) ∧ MarkMath.allAt L a j false ∧ IsMarks wr p 0 g L ∧ Boxed wr bk 3 (.int .i64 (K : Int)) ∧ Boxed wr bm 24 (.pointer (some ⟨p, 0, none⟩)) ∧ Below w.heap.size w wr
theorem free_any (w : World) (p g bk bm : Nat) (L : List Bool) (K a : Nat) (hL : L.length = 64) (hm : IsMarks w p 0 g L) (hk : Boxed w bk 3 (.int .i64 (K : Int))) (hb : Boxed w bm 24 (.pointer (some ⟨p, 0, none⟩))) (ha : a ≤ 63) (hK1 : 1 ≤ K) (hK : K ≤ 64) (r : Bool) (hr : decide (MarkMath.allAt L a K false) = r) :
    Calls Try.prog 24 #[.int .i64 (a : Int), .pointer (some ⟨bk, 0, none⟩), .pointer (some ⟨bm, 0, none⟩)] w fun e w' => e = .returned (.bool r) ∧ Below w.heap.size w w' := by
  have lp := hm.lt
  have lg := hm.row.lt
  have lk := hk.lt
  have lb := hb.lt
  have M := Lib.hid hm; have BK := Lib.hid hk; have BM := Lib.hid hb; have HR := Lib.hid hr; have HL := Lib.hid hL
  clear hm hk hb hr hL
  go_enter Try.func24, Try.ntmps24
  go_wp2
  go_loopw [5] (fun i wr => FreeRel w p g bk bm L K a i wr) (fun i _ => a + K - (intOf i).toNat)
  case atStart => exact ⟨0, Nat.zero_le _, by omega, rfl, MarkMath.allAt.none _ _ _, M.out, BK.out, BM.out, Below.refl _ _⟩
  case round =>
    obtain ⟨j, hj, haj, rfl, hf, hm, hk, hb, hw⟩ := hrel
    have c1 := hk.cell
    have c2 := hb.cell
    have M1 := Lib.hid hm; have K1 := Lib.hid hk; have B1 := Lib.hid hb; have W1 := Lib.hid hw; have F1 := Lib.hid hf
    clear hm hk hb hw hf
    have s1 := W1.out.size
    obtain ⟨q, hq⟩ : ∃ q, a + j = q := ⟨_, rfl⟩
    rw [hq] at haj ⊢
    have hqa : a ≤ q := by omega
    have HQ := Lib.hid hq
    clear hq
    by_cases hlt : q < a + K
    · have hjK : j < K := by have := HQ.out; omega
      by_cases h64 : 64 ≤ q
      · go_wp2
        go_ret
        have e : r = false := HR.out.symm.trans (decide_eq_false (fun h => by have := h.le hK1; rw [HL.out] at this; omega))
        rw [e]
        exact ⟨rfl, W1.out⟩
      · obtain ⟨c, hc⟩ : ∃ c, hasAll L [(q : Int)] = c := ⟨_, rfl⟩
        have hc' : L.getD q false = c := by
          rw [← hc]
          simp only [hasAll, List.all_cons, List.all_nil, Bool.and_true]
          rw [hasAt_nat]
        have HC := Lib.hid hc; have HC' := Lib.hid hc'
        clear hc hc'
        have h64' : q < 64 := by omega
        clear h64
        go_wp2_with fail
        refine (has_any (M1.out.alloc _) _ _ _ [(q : Int)] (Ints.one _ _ _) (by simp) c HC.out).mono ?_; rintro e w' ⟨rfl, rfl⟩
        cases c with
        | true =>
          go_wp2
          go_ret
          have e : r = false := HR.out.symm.trans (decide_eq_false (fun h => by
            have := MarkMath.allAt.at h (i := q) hqa hlt false
            rw [HC'.out] at this; cases this))
          rw [e]
          exact ⟨rfl, W1.out.alloc s1 _⟩
        | false =>
          go_wp2
          go_roundw
          case rel =>
            have hq := HQ.out
            refine ⟨j + 1, by omega, by omega, by rw [show a + (j + 1) = q + 1 by omega]; go_num, F1.out.snoc (by rw [HL.out]; omega) (by rw [hq]; exact HC'.out), M1.out.alloc _, K1.out.alloc _, B1.out.alloc _, W1.out.alloc s1 _⟩
          case measure => simp [intOf]; omega
    · have hjK : j = K := by have := HQ.out; omega
      have F2 := Lib.hid (hjK ▸ F1.out)
      have hlt2 : a + K ≤ q := by omega
      clear hjK hlt
      go_wp2
      go_ret
      have e : r = true := HR.out.symm.trans (decide_eq_true F2.out)
      rw [e]
      exact ⟨rfl, W1.out⟩

/-- While rows are marked. -/
def Marking2 (w : World) (p g bm : Nat) (m : Nat) (i : Value) (wr : World) : Prop :=
  ∃ k : Nat, k ≤ m ∧ i = .int .i64 (k : Int) ∧ (∃ L, IsMarks wr p 0 g L ∧ L.length = 64) ∧ Boxed wr bm 24 (.pointer (some ⟨p, 0, none⟩)) ∧ Below w.heap.size w wr
/-- The lowest one that is free, of those above I. -/
def Wanted (L : List Bool) (K : Nat) (I W : Int) : Prop :=
  (W = -1 ∧ ∀ b : Nat, I < (b : Int) → ¬ MarkMath.allAt L b K false) ∨ (∃ a : Nat, W = (a : Int) ∧ I < (a : Int) ∧ a ≤ 63 ∧ MarkMath.allAt L a K false ∧ ∀ b : Nat, I < (b : Int) → b < a → ¬ MarkMath.allAt L b K false)
def Seeking (w : World) (p g bk bm : Nat) (L : List Bool) (K : Nat) (t i : Value) (wr : World) : Prop :=
  ∃ I W : Int, -1 ≤ I ∧ I ≤ 63 ∧ i = .int .i64 I ∧ t = .int .i64 W ∧ Wanted L K I W ∧ IsMarks wr p 0 g L ∧ Boxed wr bk 3 (.int .i64 (K : Int)) ∧ Boxed wr bm 24 (.pointer (some ⟨p, 0, none⟩)) ∧ Below w.heap.size w wr
theorem Wanted.yes {L : List Bool} {K a : Nat} {W : Int} (h : Wanted L K (a : Int) W) (hf : MarkMath.allAt L a K false) (ha : a ≤ 63) : Wanted L K ((a : Int) - 1) (a : Int) :=
  .inr ⟨a, rfl, by omega, ha, hf, fun b h1 h2 => by omega⟩
theorem Wanted.no {L : List Bool} {K a : Nat} {W : Int} (h : Wanted L K (a : Int) W) (hf : ¬ MarkMath.allAt L a K false) : Wanted L K ((a : Int) - 1) W := by
  rcases h with ⟨hw, hn⟩ | ⟨c, hw, hc, h63, hcf, hn⟩
  · refine .inl ⟨hw, fun b hb => ?_⟩
    by_cases e : b = a
    · subst e; exact hf
    · exact hn b (by omega)
  · refine .inr ⟨c, hw, by omega, h63, hcf, fun b h1 h2 => ?_⟩
    by_cases e : b = a
    · subst e; exact hf
    · exact hn b (by omega) h2

set_option maxRecDepth 100000 in
set_option maxHeartbeats 1000000 in
theorem walk_short (w : World) (A : Option Addr) (n cap : Nat) (l : List (Int × Int × Int)) (h : IsTrips w (.slice A n cap) l) (run : Nat) (hrun : run ≤ 255) (K : Nat) (xk : (run : Int) % 64 + 1 = (K : Int)) (hK1 : 1 ≤ K) (hK : K ≤ 64) (hs : l.length ≤ 100) :
    Calls Try.prog 5 #[.slice A n cap, .int .u8 (run : Int)] w fun e w' => e = .returned (.bool true) ∧ Below w.heap.size w w' := by
  obtain rfl := h.1.len
  have HT := Lib.hid h; have XK := Lib.hid xk
  have hs' : decide ((100 : Int) < (l.length : Int)) = false := decide_eq_false (by omega)
  clear h xk
  go_enter Try.func5, Try.ntmps5
  go_wp2_with fail
  refine (alive_any _).mono ?_; rintro e w1 ⟨rfl, hb⟩
  have B1 := Lib.hid hb
  have s1 := B1.out.size
  clear hb
  go_wp2_with fail
  refine (new_ok 64 (by decide) (by decide) _).mono ?_; rintro e w2 ⟨p, g, rfl, hm, hp, hg, hu⟩
  have B2 := Lib.hid (B1.out.trans (below_false hu s1)); have M2 := Lib.hid hm
  have hp' : w.heap.size ≤ p := Nat.le_trans s1 hp
  have hg' : w.heap.size ≤ g := Nat.le_trans s1 hg
  have lp := hm.lt
  have lg := hm.row.lt
  have s2 := B2.out.size
  clear hu hm hp hg
  go_wp2_with fail
  clear hs'
  obtain ⟨bm, hbm⟩ : ∃ bm, w2.heap.size = bm := ⟨_, rfl⟩
  have bN := Boxed.new w2 24 (.pointer (some ⟨p, 0, none⟩))
  rw [hbm] at bN lp lg s2 ⊢
  have BN := Lib.hid bN; have HBM := Lib.hid hbm
  clear bN hbm
  go_loopw [32] (fun i wr => Marking2 w p g bm l.length i wr) (fun i _ => l.length - (intOf i).toNat)
  case atStart => exact ⟨0, Nat.zero_le _, rfl, ⟨_, M2.out.alloc _, MarkMath.length_rep _ _⟩, BN.out, B2.out.alloc (by have := HBM.out; omega) _⟩
  case round =>
    obtain ⟨k, hk, rfl, ⟨L, hm, hL⟩, hbx, hb⟩ := hrel
    have cm := hbx.cell
    have lbm := hbx.lt
    have M := Lib.hid hm; have HL := Lib.hid hL; have B := Lib.hid hb; have BX := Lib.hid hbx
    clear hm hL hb hbx
    have sr := B.out.size
    by_cases hlt : k < l.length
    · have hI := HT.out.getD hlt
      obtain ⟨b, off, rfl, c1, c2, c3⟩ := (HT.out.1.below (Nat.le_refl _) B.out).elem hlt
      obtain ⟨⟨x, y, z⟩, ht⟩ : ∃ t, l.getD k (0, 0, 0) = t := ⟨_, rfl⟩
      rw [ht] at c1 c2 c3 hI
      obtain ⟨wx, wy, wz⟩ := hI
      clear ht
      have HM := Lib.hid (mark_any ((M.out.alloc (.cells #[.int .i64 x, .int .i64 y, .int .i64 z] 32))) y z wy.wf wz.wf)
      clear wx wy wz
      go_wp2_with fail
      refine HM.out.mono ?_; rintro e w3 ⟨rfl, hm, hu⟩
      have B3 := Lib.hid ((B.out.alloc sr _).trans (below_one hu (Nat.le_trans sr (by simp)) hg')); have M3 := Lib.hid hm
      have BX3 := Lib.hid (boxed_upd (BX.out.alloc (.cells #[.int .i64 x, .int .i64 y, .int .i64 z] 32)) hu (Nat.ne_of_gt lg))
      clear hu hm HM
      go_wp2
      go_roundw
      case rel => exact ⟨k + 1, by omega, by go_num, ⟨_, M3.out, by rw [turnL_len]; exact HL.out⟩, BX3.out, B3.out⟩
      case measure => simp [intOf]; omega
    · obtain rfl : k = l.length := by omega
      clear hlt hk
      have xk := XK.out
      go_wp2
      clear xk
      obtain ⟨bk, hbk⟩ : ∃ bk, wr.heap.size = bk := ⟨_, rfl⟩
      have bK := Boxed.new wr 3 (.int .i64 (K : Int))
      have bM := BX.out.alloc (.cells #[.int .i64 (K : Int)] 3)
      have mM := M.out.alloc (.cells #[.int .i64 (K : Int)] 3)
      have bB := B.out.alloc sr (.cells #[.int .i64 (K : Int)] 3)
      have lgk : g < bk := by omega
      rw [hbk] at bK ⊢
      obtain ⟨W3, hW3⟩ : ∃ W3, wr.alloc (.cells #[.int .i64 (K : Int)] 3) = W3 := ⟨_, rfl⟩
      rw [hW3] at bK bM mM bB ⊢
      have S3 := Lib.hid (And.intro bK (And.intro bM (And.intro mM bB)))
      clear bK bM mM bB hW3 hbk cm
      go_loopw [11, 12] (fun t i wr => Seeking w p g bk bm L K t i wr) (fun _ i _ => (intOf i + 1).toNat)
      case atStart => exact ⟨63, -1, by omega, by omega, rfl, rfl, .inl ⟨rfl, fun b hb hf => by have := hf.le hK1; rw [HL.out] at this; omega⟩, S3.out.2.2.1, S3.out.1, S3.out.2.1, S3.out.2.2.2⟩
      case round =>
        obtain ⟨I, W, hI1, hI2, rfl, rfl, hwant, hm, hk, hb, hw⟩ := hrel
        have c1 := hk.cell
        have c2 := hb.cell
        have M4 := Lib.hid hm; have K4 := Lib.hid hk; have X4 := Lib.hid hb; have B4 := Lib.hid hw; have WT := Lib.hid hwant
        have lk := hk.lt
        have lb := hb.lt
        clear hm hk hb hw hwant
        have s4 := B4.out.size
        by_cases hI0 : 0 ≤ I
        · obtain ⟨a, rfl⟩ := Int.eq_ofNat_of_zero_le hI0
          obtain ⟨c, hc⟩ : ∃ c, decide (MarkMath.allAt L a K false) = c := ⟨_, rfl⟩
          have HF := Lib.hid (free_any _ p g bk bm L K a HL.out M4.out K4.out X4.out (by omega) hK1 hK c hc)
          cases c with
          | true =>
            have W5 := Lib.hid (WT.out.yes (of_decide_eq_true hc) (by omega))
            clear hc
            go_wp2_with fail
            refine HF.out.mono ?_; rintro e w5 ⟨rfl, hb⟩
            have B5 := Lib.hid (B4.out.trans (hb.mono s4)); have M5 := Lib.hid (M4.out.grew hb); have K5 := Lib.hid (boxed_below K4.out hb lk); have X5 := Lib.hid (boxed_below X4.out hb lb)
            clear hb HF
            go_wp2
            go_roundw
            case rel => exact ⟨(a : Int) - 1, (a : Int), by omega, by omega, rfl, rfl, W5.out, M5.out, K5.out, X5.out, B5.out⟩
            case measure => simp [intOf]
          | false =>
            have W5 := Lib.hid (WT.out.no (of_decide_eq_false hc))
            clear hc
            go_wp2_with fail
            refine HF.out.mono ?_; rintro e w5 ⟨rfl, hb⟩
            have B5 := Lib.hid (B4.out.trans (hb.mono s4)); have M5 := Lib.hid (M4.out.grew hb); have K5 := Lib.hid (boxed_below K4.out hb lk); have X5 := Lib.hid (boxed_below X4.out hb lb)
            clear hb HF
            go_wp2
            go_roundw
            case rel => exact ⟨(a : Int) - 1, W, by omega, by omega, rfl, rfl, W5.out, M5.out, K5.out, X5.out, B5.out⟩
            case measure => simp [intOf]
        · have hIm : I = -1 := by omega
          have WT2 := Lib.hid (hIm ▸ WT.out)
          have hI0' : I < 0 := by omega
          clear hI0 hIm
          rcases WT2.out with ⟨hw, hn⟩ | ⟨a, hw, _, ha63, haf, hn⟩
          · -- none is free
            have hno : MarkMath.low L K = none := MarkMath.low_no hK1 fun b => hn b (by omega)
            have hlong : MarkMath.longest L < K := by
              refine Nat.lt_of_not_le fun h => ?_
              obtain ⟨b, hb⟩ := MarkMath.longest_row hK1 h
              exact hn b (by omega) hb.1
            have ht := take_any M4.out (K : Int)
            obtain ⟨e1, e2, e3⟩ := take_full (L := L) (k := K) hK1 (by rw [HL.out]; exact hK) hno
            rw [e1, e2, e3] at ht
            obtain ⟨N, hN⟩ : ∃ N, MarkMath.longest L = N := ⟨_, rfl⟩
            have hl := fun w' (h : IsMarks w' p 0 g L) => longest_any h
            rw [hN] at hl hlong
            have hW0 : W < 0 := by omega
            have HTk := Lib.hid ht; have HLg := Lib.hid hl
            clear ht hl hN hno e1 e2 e3 hw hn WT2
            go_wp2_with fail
            refine HTk.out.mono ?_; rintro e w5 ⟨rfl, hm, hu⟩
            have B5 := Lib.hid (B4.out.trans (below_one hu s4 hg')); have M5 := Lib.hid hm
            have K5 := boxed_upd K4.out hu (Nat.ne_of_gt lgk)
            have X5 := boxed_upd X4.out hu (Nat.ne_of_gt lg)
            have s5 := B5.out.size
            have l5k := K5.lt
            have l5m := X5.lt
            have c5k := K5.cell
            have c5m := X5.cell
            have HK5 := Lib.hid K5; have HX5 := Lib.hid X5
            clear hu hm HTk K5 X5 c1 c2
            go_wp2_with fail
            go_region_held3 (fun w' => w'.cell? ⟨bk, 0, none⟩ = some (.int .i64 (K : Int)) ∧ w'.cell? ⟨bm, 0, none⟩ = some (.pointer (some ⟨p, 0, none⟩))) (first | go_keep | exact ⟨k6, x6⟩)
              (first | (go_at_call 21; refine (HLg.out _ M5.out.drew).mono ?_; rintro e w6 ⟨rfl, hb⟩; have B6 := Lib.hid (B5.out.drew.trans (hb.mono s5)); have k6 := (boxed_below (w := w5.drew) HK5.out hb l5k).cell; have x6 := (boxed_below (w := w5.drew) HX5.out hb l5m).cell; clear hb))
            go_wp2
            go_ret
            exact ⟨rfl, B6.out⟩
          · -- the lowest one
            have hlow : MarkMath.Low L K a := ⟨haf, fun b hb => hn b (by omega) hb⟩
            have ht := take_any M4.out (K : Int)
            obtain ⟨e1, e2, e3⟩ := take_yes (L := L) (k := K) hK1 (by rw [HL.out]; exact hK) (MarkMath.low_of hK1 hlow)
            rw [e1, e2, e3] at ht
            have hal := haf.le hK1
            have hl64 := HL.out
            have hhas : hasAll (MarkMath.setAt L a K true) [(a : Int), ((a + K - 1 : Nat) : Int)] = true := by
              simp only [hasAll, List.all_cons, List.all_nil, Bool.and_true, Bool.and_eq_true]
              rw [hasAt_nat, hasAt_nat, MarkMath.getD_setAt _ hal, if_pos (by omega), MarkMath.getD_setAt _ hal, if_pos (by omega)]
              exact ⟨rfl, rfl⟩
            rw [show ((a + K - 1 : Nat) : Int) = (a : Int) + (K : Int) - 1 by omega] at hhas
            have haK : a + K ≤ 64 := by omega
            subst hw
            have taa : ((a : Int) == (a : Int)) = true := by simp
            have HTk := Lib.hid ht; have HH := Lib.hid hhas
            clear ht hhas e1 e2 e3 hn WT2 hlow haf hal hl64 WT
            go_wp2_with fail
            refine HTk.out.mono ?_; rintro e w5 ⟨rfl, hm, hu⟩
            have B5 := Lib.hid (B4.out.trans (below_one hu s4 hg')); have M5 := Lib.hid hm
            have K5 := boxed_upd K4.out hu (Nat.ne_of_gt lgk)
            have X5 := boxed_upd X4.out hu (Nat.ne_of_gt lg)
            have s5 := B5.out.size
            have c5k := K5.cell
            have c5m := X5.cell
            have HK5 := Lib.hid K5; have HX5 := Lib.hid X5
            clear hu hm HTk K5 X5 c1 c2
            go_wp2_with fail
            refine (has_any (M5.out.alloc _) _ _ _ [(a : Int), (a : Int) + (K : Int) - 1] (Ints.two _ _ _ _) (by simp) true HH.out).mono ?_; rintro e w' ⟨rfl, rfl⟩
            go_wp2
            go_ret
            exact ⟨rfl, B5.out.alloc s5 _⟩

theorem walk_long (w : World) (A : Option Addr) (n cap : Nat) (l : List (Int × Int × Int)) (h : IsTrips w (.slice A n cap) l) (run : Nat) (hs : 100 < l.length) :
    Calls Try.prog 5 #[.slice A n cap, .int .u8 (run : Int)] w fun e w' => e = .returned (.bool true) ∧ Below w.heap.size w w' := by
  obtain rfl := h.1.len
  have hs' : decide ((100 : Int) < (l.length : Int)) = true := decide_eq_true (by omega)
  clear h
  go_enter Try.func5, Try.ntmps5
  go_wp2_with fail
  refine (alive_any _).mono ?_; rintro e w1 ⟨rfl, hb⟩
  have B1 := Lib.hid hb
  have s1 := B1.out.size
  clear hb
  go_wp2_with fail
  refine (new_ok 64 (by decide) (by decide) _).mono ?_; rintro e w2 ⟨p, g, rfl, hm, hp, hg, hu⟩
  have B2 := Lib.hid (B1.out.trans (below_false hu s1))
  have s2 := B2.out.size
  clear hu hm hp hg
  go_wp2
  go_ret
  exact ⟨rfl, B2.out.alloc s2 _⟩

theorem walk (w : World) {A : Option Addr} {n cap : Nat} (l : List (Int × Int × Int)) (h : IsTrips w (.slice A n cap) l) (run : Int) (h1 : (Lit.int .u8 run).wf = true) :
    Calls Try.prog 5 #[.slice A n cap, .int .u8 run] w fun e w' => e = .returned (.bool true) ∧ Below w.heap.size w w' := by
  have b1 := u8_bd h1
  obtain ⟨run, rfl⟩ := Int.eq_ofNat_of_zero_le b1.1
  by_cases hs : l.length ≤ 100
  · exact walk_short w A n cap l h run (by omega) (run % 64 + 1) (by omega) (by omega) (by omega) hs
  · exact walk_long w A n cap l h run (by omega)
end Go.Proofs.Ytfmbfonnabebmaa.markLowest
