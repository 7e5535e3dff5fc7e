/- The law MarkActs, walked. -/
import Derived.Test.YtfmbfonnabebmaaMarksRel
import Derived.Test.YtfmbfonnabebmaaRefMarks2
import Derived.Deep.RegionHeld3
namespace Go.Proofs.Ytfmbfonnabebmaa.markActs
open Go.RowKit
set_option linter.unusedVariables false

/-- The two marks, and the act that is done, in a world that comes of w. -/
structure Both (w : World) (p g q h B : Nat) (x y z : Int) (L M : List Bool) (w' : World) : Prop where
  marks : IsMarks w' p 0 g L
  ref : IsRef w' q h M
  act : Blk w' B 32 #[.int .i64 x, .int .i64 y, .int .i64 z]
  far : Below w.heap.size w w'
/-- Their blocks are apart, and new. -/
structure Apart (w : World) (p g q h : Nat) : Prop where
  gq : g ≠ q
  gh : g ≠ h
  hp : h ≠ p
  p0 : w.heap.size ≤ p
  g0 : w.heap.size ≤ g
  q0 : w.heap.size ≤ q
  h0 : w.heap.size ≤ h
section
variable {w : World} {p g q h B : Nat} {x y z : Int} {L M : List Bool} {w' : World}
theorem Both.drew (s : Both w p g q h B x y z L M w') : Both w p g q h B x y z L M w'.drew := ⟨s.marks.drew, s.ref.drew, s.act.drew, s.far.drew⟩
theorem Both.size (s : Both w p g q h B x y z L M w') : w.heap.size ≤ w'.heap.size := s.far.size
theorem Both.c0 (s : Both w p g q h B x y z L M w') : w'.cell? ⟨B, 0, none⟩ = some (.int .i64 x) := s.act.cell 0
theorem Both.c1 (s : Both w p g q h B x y z L M w') : w'.cell? ⟨B, 1, none⟩ = some (.int .i64 y) := s.act.cell 1
theorem Both.c2 (s : Both w p g q h B x y z L M w') : w'.cell? ⟨B, 2, none⟩ = some (.int .i64 z) := s.act.cell 2
theorem Both.grew {w2 : World} (s : Both w p g q h B x y z L M w') (hb : Below w'.heap.size w' w2) : Both w p g q h B x y z L M w2 :=
  ⟨s.marks.grew hb, s.ref.grew hb, (hb.block B s.act.lt).trans s.act, s.far.trans (hb.mono s.far.size)⟩
theorem Both.alloc (s : Both w p g q h B x y z L M w') (o : Obj) : Both w p g q h B x y z L M (w'.alloc o) := ⟨s.marks.alloc o, s.ref.alloc o, s.act.alloc o, s.far.alloc s.far.size o⟩
theorem Both.mark {w2 : World} {L2 : List Bool} {v : Value} {e : Ending} (a : Apart w p g q h) (hB : B ≠ g) (s : Both w p g q h B x y z L M w') (k : Wrote w' p 0 g L2 v e w2) : e = .returned v ∧ Both w p g q h B x y z L2 M w2 :=
  ⟨k.1, k.2.1, s.ref.upd k.2.2 (fun e => a.gq e.symm) (fun e => a.gh e.symm), s.act.upd k.2.2 hB, s.far.trans (below_one k.2.2 s.far.size a.g0)⟩
theorem Both.refs {w2 : World} {M2 : List Bool} {v : Value} {e : Ending} (a : Apart w p g q h) (hB : B ≠ h) (s : Both w p g q h B x y z L M w') (k : RefWrote w' q h M2 v e w2) : e = .returned v ∧ Both w p g q h B x y z L M2 w2 :=
  ⟨k.1, s.marks.upd k.2.2 (fun e => a.hp e.symm) a.gh, k.2.1, s.act.upd k.2.2 hB, s.far.trans (below_one k.2.2 s.far.size a.h0)⟩
end
def Acting (w : World) (p g q h N : Nat) (m : Nat) (i : Value) (wr : World) : Prop :=
  ∃ k : Nat, k ≤ m ∧ i = .int .i64 (k : Int) ∧ (∃ L, IsMarks wr p 0 g L ∧ IsRef wr q h L ∧ L.length = N) ∧ Below w.heap.size w wr
def Looking (w : World) (p g q h B : Nat) (x y z : Int) (L : List Bool) (i : Value) (wr : World) : Prop :=
  ∃ j : Nat, j ≤ L.length ∧ i = .int .i64 (j : Int) ∧ Both w p g q h B x y z L L wr
theorem oneAt (w : World) (e : TypeId) (x : Int) (g : Nat) (hg : g = w.heap.size) : Ints (w.alloc (.cells #[.int .i64 x] e)) (.slice (some ⟨g, 0, none⟩) 1 1) [x] := by subst hg; exact Ints.one w e x
theorem asked {L : List Bool} {j : Nat} {c : Bool} (h : L.getD j false = c) : hasAll L [(j : Int)] = c := by
  simp only [hasAll, List.all_cons, List.all_nil, Bool.and_true]
  rw [hasAt_nat]; exact h

set_option maxRecDepth 100000 in
set_option maxHeartbeats 4000000 in
theorem walk_short (w : World) (N : Nat) (hN1 : 1 ≤ N) (hN : N ≤ 256) (A : Option Addr) (n cap : Nat) (l : List (Int × Int × Int)) (hl : IsTrips w (.slice A n cap) l) (hs : l.length ≤ 100) :
    Calls Try.prog 3 #[.int .i64 (N : Int), .slice A n cap] w fun e w' => e = .returned (.bool true) ∧ Below w.heap.size w w' := by
  obtain rfl := hl.1.len
  have HT := Lib.hid hl
  have hs' : decide ((100 : Int) < (l.length : Int)) = false := decide_eq_false (by omega)
  clear hl
  go_enter Try.func3, Try.ntmps3
  go_wp2_with fail
  refine (alive_any _).mono ?_; rintro e w1 ⟨rfl, hb⟩
  have B1 := Lib.hid hb
  have s1 := B1.out.size
  clear hb
  go_wp2_with fail
  refine (new_ok N hN1 hN _).mono ?_; rintro e w2 ⟨p, g, rfl, hm, hp, hg, hu⟩
  have B2 := Lib.hid (B1.out.trans (below_false hu s1))
  have lp := hm.lt
  have lg := hm.row.lt
  have s2 := B2.out.size
  have M2 := Lib.hid hm
  have hp' : w.heap.size ≤ p := Nat.le_trans s1 hp
  have hg' : w.heap.size ≤ g := Nat.le_trans s1 hg
  clear hu hm hp hg
  go_wp2_with fail
  refine (ref_new_ok N hN1 hN _).mono ?_; rintro e w3 ⟨q, h, rfl, hr, hq, hh, hu⟩
  have B3 := Lib.hid (B2.out.trans (below_false hu s2))
  have AP := Lib.hid (Apart.mk (w := w) (p := p) (g := g) (q := q) (h := h) (by omega) (by omega) (by omega) hp' hg' (by omega) (by omega))
  have M3 := Lib.hid (M2.out.upd hu id id); have R3 := Lib.hid hr
  have s3 := B3.out.size
  have lq := hr.head.lt
  have lh := hr.row.lt
  have lp3 : p < w3.heap.size := by have := hu.size; omega
  have lg3 : g < w3.heap.size := by have := hu.size; omega
  clear hu hr hq hh lp lg hp' hg'
  go_wp2_with fail
  clear hs'
  go_loopw [48] (fun i wr => Acting w p g q h N l.length i wr) (fun i _ => l.length - (intOf i).toNat)
  case atStart => exact ⟨0, Nat.zero_le _, rfl, ⟨_, M3.out, R3.out, MarkMath.length_rep _ _⟩, B3.out⟩
  case round =>
    obtain ⟨k, hk, rfl, ⟨L, hm, hr, hL⟩, hb⟩ := hrel
    have M := Lib.hid hm; have R := Lib.hid hr; have HL := Lib.hid hL; have B := Lib.hid hb
    have lg := hm.row.lt
    have lh := hr.row.lt
    clear hm hr hL hb
    have sr := B.out.size
    by_cases hlt : k < l.length
    · have hI := HT.out.getD hlt
      obtain ⟨b, off, rfl, c1, c2, c3⟩ := (HT.out.1.below (Nat.le_refl _) B.out).elem hlt
      obtain ⟨⟨x, y, z⟩, ht⟩ : ∃ t, l.getD k (0, 0, 0) = t := ⟨_, rfl⟩
      rw [ht] at c1 c2 c3 hI
      obtain ⟨wx, wy, wz⟩ := hI
      clear ht
      have WY := Lib.hid wy; have WZ := Lib.hid wz; have WX := Lib.hid wx
      clear wx wy wz
      obtain ⟨bb, hbb⟩ : ∃ bb, wr.heap.size = bb := ⟨_, rfl⟩
      have hBg : bb ≠ g := by omega
      have hBh : bb ≠ h := by omega
      have st : Both w p g q h bb x y z L L (wr.alloc (.cells #[.int .i64 x, .int .i64 y, .int .i64 z] 32)) :=
        ⟨M.out.alloc _, R.out.alloc _, by rw [← hbb]; exact Blk.new wr _ _, B.out.alloc sr _⟩
      -- what the act leaves
      by_cases hx1 : x = 1
      · have t1 : (x == 1) = true := by rw [beq_iff_eq]; exact hx1
        have HM : Hid (∀ M' w', Both w p g q h bb x y z L M' w' → Calls Try.prog 13 #[.pointer (some ⟨p, 0, none⟩), .int .i64 y, .int .i64 z] w' fun e w2 => e = .returned (.int .i64 (turnE true 6 L y z)) ∧ Both w p g q h bb x y z (turnL true L y z) M' w2) :=
          Lib.hid fun M' w' s => (mark_any s.marks y z WY.out.wf WZ.out.wf).mono fun e w2 k => s.mark AP.out hBg k
        have HR : Hid (∀ L' w', Both w p g q h bb x y z L' L w' → Calls Try.prog 14 #[.pointer (some ⟨q, 0, none⟩), .int .i64 y, .int .i64 z] w' fun e w2 => e = .returned (.int .i64 (turnE true 6 L y z)) ∧ Both w p g q h bb x y z L' (turnL true L y z) w2) :=
          Lib.hid fun L' w' s => (ref_mark s.ref y z WY.out WZ.out).mono fun e w2 k => s.refs AP.out hBh k
        have HL2 := Lib.hid (turnL_len true L y z)
        obtain ⟨E, hE⟩ : ∃ E, turnE true 6 L y z = E := ⟨_, rfl⟩
        obtain ⟨L2, hL2⟩ : ∃ L2, turnL true L y z = L2 := ⟨_, rfl⟩
        rw [hE, hL2] at HM HR
        rw [hL2] at HL2
        have HX := Lib.hid hx1
        clear hx1 hE hL2
        go_wp2_with fail
        obtain ⟨W1, hW1⟩ : ∃ W1, wr.alloc (.cells #[.int .i64 x, .int .i64 y, .int .i64 z] 32) = W1 := ⟨_, rfl⟩
        rw [hW1] at st ⊢
        have d1 := st.c1
        have d2 := st.c2
        have ST := Lib.hid st
        have HBB := Lib.hid hbb
        clear st hW1 hbb c1 c2 c3
        go_region_held3 (fun w' => w'.cell? ⟨bb, 1, none⟩ = some (.int .i64 y) ∧ w'.cell? ⟨bb, 2, none⟩ = some (.int .i64 z)) (first | go_keep | exact ⟨d1, d2⟩)
          (first
            | (go_at_call 13; (first | (with_reducible refine (HM.out _ _ ST.out.drew).mono ?_) | (with_reducible refine (HM.out _ _ ST.out).mono ?_)); rintro e w5 ⟨rfl, hst⟩; have d1 := hst.c1; have d2 := hst.c2; have ST := Lib.hid hst; clear hst)
            | (go_at_call 14; (first | (with_reducible refine (HR.out _ _ ST.out.drew).mono ?_) | (with_reducible refine (HR.out _ _ ST.out).mono ?_)); rintro e w5 ⟨rfl, hst⟩; have d1 := hst.c1; have d2 := hst.c2; have ST := Lib.hid hst; clear hst))
        clear d1 d2 HM HR t1 HX
        go_wp2_with fail
        obtain ⟨X, hX⟩ : ∃ X, MarkMath.left L2 = X := ⟨_, rfl⟩
        obtain ⟨Y, hY⟩ : ∃ Y, MarkMath.longest L2 = Y := ⟨_, rfl⟩
        have f1 : Hid (∀ w', Both w p g q h bb x y z L2 L2 w' → Calls Try.prog 19 #[.pointer (some ⟨p, 0, none⟩)] w' fun e w2 => e = .returned (.int .i64 (X : Int)) ∧ Both w p g q h bb x y z L2 L2 w2) :=
          Lib.hid fun w' s => (left_any s.marks).mono fun e w2 k => ⟨by rw [k.1, hX], s.grew k.2⟩
        have f2 : Hid (∀ w', Both w p g q h bb x y z L2 L2 w' → Calls Try.prog 20 #[.pointer (some ⟨q, 0, none⟩)] w' fun e w2 => e = .returned (.int .i64 (X : Int)) ∧ w' = w2) :=
          Lib.hid fun w' s => (ref_left s.ref).mono fun e w2 k => ⟨by rw [k.1, hX], k.2⟩
        have f3 : Hid (∀ w', Both w p g q h bb x y z L2 L2 w' → Calls Try.prog 21 #[.pointer (some ⟨p, 0, none⟩)] w' fun e w2 => e = .returned (.int .i64 (Y : Int)) ∧ Both w p g q h bb x y z L2 L2 w2) :=
          Lib.hid fun w' s => (longest_any s.marks).mono fun e w2 k => ⟨by rw [k.1, hY], s.grew k.2⟩
        have f4 : Hid (∀ w', Both w p g q h bb x y z L2 L2 w' → Calls Try.prog 22 #[.pointer (some ⟨q, 0, none⟩)] w' fun e w2 => e = .returned (.int .i64 (Y : Int)) ∧ w' = w2) :=
          Lib.hid fun w' s => (ref_longest s.ref).mono fun e w2 k => ⟨by rw [k.1, hY], k.2⟩
        clear hX hY
        refine (f1.out _ ST.out).mono ?_; rintro e w7 ⟨rfl, hst⟩
        have ST7 := Lib.hid hst
        clear hst ST
        go_wp2_with fail
        refine (f2.out _ ST7.out).mono ?_; rintro e w' ⟨rfl, rfl⟩
        go_wp2_with fail
        refine (f3.out _ ST7.out).mono ?_; rintro e w8 ⟨rfl, hst⟩
        have ST8 := Lib.hid hst
        clear hst ST7
        go_wp2_with fail
        refine (f4.out _ ST8.out).mono ?_; rintro e w' ⟨rfl, rfl⟩
        have hc := ST8.out.ref.head.cell 0
        have hbig := ST8.out.ref.big
        clear f1 f2 f3 f4
        go_wp2
        go_loopw [123] (fun i wi => Looking w p g q h bb x y z L2 i wi) (fun i _ => L2.length - (intOf i).toNat)
        case atStart => exact ⟨0, Nat.zero_le _, rfl, ST8.out⟩
        case round =>
          obtain ⟨j, hj, rfl, hst⟩ := hrel
          have S9 := Lib.hid hst
          clear hst hc
          by_cases hlj : j < L2.length
          · have hcell := S9.out.ref.row.cell j hlj
            obtain ⟨c, hcd⟩ : ∃ c, L2.getD j false = c := ⟨_, rfl⟩
            rw [hcd] at hcell
            have HC := Lib.hid (asked hcd)
            clear hcd
            have tcc : (c == c) = true := by simp
            go_wp2_with fail
            refine (has_any (S9.out.marks.alloc _) _ _ _ [(j : Int)] (Ints.one _ _ _) (by simp) c HC.out).mono ?_; rintro e w' ⟨rfl, rfl⟩
            go_wp2
            go_roundw
            case rel => exact ⟨j + 1, by omega, by go_num, S9.out.alloc _⟩
            case measure => simp [intOf]; omega
          · obtain rfl : j = L2.length := by omega
            go_wp2
            go_roundw
            case rel => exact ⟨k + 1, by omega, by go_num, ⟨L2, S9.out.marks, S9.out.ref, HL2.out.trans HL.out⟩, S9.out.far⟩
            case measure => simp [intOf]; omega
      · have t1 : (x == 1) = false := by rw [beq_eq_false_iff_ne]; exact hx1
        by_cases hx2 : x = 2
        · have t2 : (x == 2) = true := by rw [beq_iff_eq]; exact hx2
          have HM : Hid (∀ M' w', Both w p g q h bb x y z L M' w' → Calls Try.prog 15 #[.pointer (some ⟨p, 0, none⟩), .int .i64 y, .int .i64 z] w' fun e w2 => e = .returned (.int .i64 (turnE false 5 L y z)) ∧ Both w p g q h bb x y z (turnL false L y z) M' w2) :=
            Lib.hid fun M' w' s => (free_any s.marks y z WY.out.wf WZ.out.wf).mono fun e w2 k => s.mark AP.out hBg k
          have HR : Hid (∀ L' w', Both w p g q h bb x y z L' L w' → Calls Try.prog 16 #[.pointer (some ⟨q, 0, none⟩), .int .i64 y, .int .i64 z] w' fun e w2 => e = .returned (.int .i64 (turnE false 5 L y z)) ∧ Both w p g q h bb x y z L' (turnL false L y z) w2) :=
            Lib.hid fun L' w' s => (ref_free s.ref y z WY.out WZ.out).mono fun e w2 k => s.refs AP.out hBh k
          have HL2 := Lib.hid (turnL_len false L y z)
          obtain ⟨E, hE⟩ : ∃ E, turnE false 5 L y z = E := ⟨_, rfl⟩
          obtain ⟨L2, hL2⟩ : ∃ L2, turnL false L y z = L2 := ⟨_, rfl⟩
          rw [hE, hL2] at HM HR
          rw [hL2] at HL2
          have HX := Lib.hid hx2
          clear hx2 hE hL2
          go_wp2_with fail
          obtain ⟨W1, hW1⟩ : ∃ W1, wr.alloc (.cells #[.int .i64 x, .int .i64 y, .int .i64 z] 32) = W1 := ⟨_, rfl⟩
          rw [hW1] at st ⊢
          have d1 := st.c1
          have d2 := st.c2
          have ST := Lib.hid st
          have HBB := Lib.hid hbb
          clear st hW1 hbb c1 c2 c3
          go_region_held3 (fun w' => w'.cell? ⟨bb, 1, none⟩ = some (.int .i64 y) ∧ w'.cell? ⟨bb, 2, none⟩ = some (.int .i64 z)) (first | go_keep | exact ⟨d1, d2⟩)
            (first
              | (go_at_call 15; (first | (with_reducible refine (HM.out _ _ ST.out.drew).mono ?_) | (with_reducible refine (HM.out _ _ ST.out).mono ?_)); rintro e w5 ⟨rfl, hst⟩; have d1 := hst.c1; have d2 := hst.c2; have ST := Lib.hid hst; clear hst)
              | (go_at_call 16; (first | (with_reducible refine (HR.out _ _ ST.out.drew).mono ?_) | (with_reducible refine (HR.out _ _ ST.out).mono ?_)); rintro e w5 ⟨rfl, hst⟩; have d1 := hst.c1; have d2 := hst.c2; have ST := Lib.hid hst; clear hst))
          clear d1 d2 HM HR t1 t2 HX
          go_wp2_with fail
          obtain ⟨X, hX⟩ : ∃ X, MarkMath.left L2 = X := ⟨_, rfl⟩
          obtain ⟨Y, hY⟩ : ∃ Y, MarkMath.longest L2 = Y := ⟨_, rfl⟩
          have f1 : Hid (∀ w', Both w p g q h bb x y z L2 L2 w' → Calls Try.prog 19 #[.pointer (some ⟨p, 0, none⟩)] w' fun e w2 => e = .returned (.int .i64 (X : Int)) ∧ Both w p g q h bb x y z L2 L2 w2) :=
            Lib.hid fun w' s => (left_any s.marks).mono fun e w2 k => ⟨by rw [k.1, hX], s.grew k.2⟩
          have f2 : Hid (∀ w', Both w p g q h bb x y z L2 L2 w' → Calls Try.prog 20 #[.pointer (some ⟨q, 0, none⟩)] w' fun e w2 => e = .returned (.int .i64 (X : Int)) ∧ w' = w2) :=
            Lib.hid fun w' s => (ref_left s.ref).mono fun e w2 k => ⟨by rw [k.1, hX], k.2⟩
          have f3 : Hid (∀ w', Both w p g q h bb x y z L2 L2 w' → Calls Try.prog 21 #[.pointer (some ⟨p, 0, none⟩)] w' fun e w2 => e = .returned (.int .i64 (Y : Int)) ∧ Both w p g q h bb x y z L2 L2 w2) :=
            Lib.hid fun w' s => (longest_any s.marks).mono fun e w2 k => ⟨by rw [k.1, hY], s.grew k.2⟩
          have f4 : Hid (∀ w', Both w p g q h bb x y z L2 L2 w' → Calls Try.prog 22 #[.pointer (some ⟨q, 0, none⟩)] w' fun e w2 => e = .returned (.int .i64 (Y : Int)) ∧ w' = w2) :=
            Lib.hid fun w' s => (ref_longest s.ref).mono fun e w2 k => ⟨by rw [k.1, hY], k.2⟩
          clear hX hY
          refine (f1.out _ ST.out).mono ?_; rintro e w7 ⟨rfl, hst⟩
          have ST7 := Lib.hid hst
          clear hst ST
          go_wp2_with fail
          refine (f2.out _ ST7.out).mono ?_; rintro e w' ⟨rfl, rfl⟩
          go_wp2_with fail
          refine (f3.out _ ST7.out).mono ?_; rintro e w8 ⟨rfl, hst⟩
          have ST8 := Lib.hid hst
          clear hst ST7
          go_wp2_with fail
          refine (f4.out _ ST8.out).mono ?_; rintro e w' ⟨rfl, rfl⟩
          have hc := ST8.out.ref.head.cell 0
          have hbig := ST8.out.ref.big
          clear f1 f2 f3 f4
          go_wp2
          go_loopw [123] (fun i wi => Looking w p g q h bb x y z L2 i wi) (fun i _ => L2.length - (intOf i).toNat)
          case atStart => exact ⟨0, Nat.zero_le _, rfl, ST8.out⟩
          case round =>
            obtain ⟨j, hj, rfl, hst⟩ := hrel
            have S9 := Lib.hid hst
            clear hst hc
            by_cases hlj : j < L2.length
            · have hcell := S9.out.ref.row.cell j hlj
              obtain ⟨c, hcd⟩ : ∃ c, L2.getD j false = c := ⟨_, rfl⟩
              rw [hcd] at hcell
              have HC := Lib.hid (asked hcd)
              clear hcd
              have tcc : (c == c) = true := by simp
              go_wp2_with fail
              refine (has_any (S9.out.marks.alloc _) _ _ _ [(j : Int)] (Ints.one _ _ _) (by simp) c HC.out).mono ?_; rintro e w' ⟨rfl, rfl⟩
              go_wp2
              go_roundw
              case rel => exact ⟨j + 1, by omega, by go_num, S9.out.alloc _⟩
              case measure => simp [intOf]; omega
            · obtain rfl : j = L2.length := by omega
              go_wp2
              go_roundw
              case rel => exact ⟨k + 1, by omega, by go_num, ⟨L2, S9.out.marks, S9.out.ref, HL2.out.trans HL.out⟩, S9.out.far⟩
              case measure => simp [intOf]; omega
        · have t2 : (x == 2) = false := by rw [beq_eq_false_iff_ne]; exact hx2
          have HM : Hid (∀ M' w', Both w p g q h bb x y z L M' w' → Calls Try.prog 17 #[.pointer (some ⟨p, 0, none⟩), .int .i64 z] w' fun e w2 => e = .returned (.tuple #[.int .i64 (takeA L z), .int .i64 (takeE L z)]) ∧ Both w p g q h bb x y z (takeL L z) M' w2) :=
            Lib.hid fun M' w' s => (take_any s.marks z).mono fun e w2 k => s.mark AP.out hBg k
          have HR : Hid (∀ L' w', Both w p g q h bb x y z L' L w' → Calls Try.prog 18 #[.pointer (some ⟨q, 0, none⟩), .int .i64 z] w' fun e w2 => e = .returned (.tuple #[.int .i64 (takeA L z), .int .i64 (takeE L z)]) ∧ Both w p g q h bb x y z L' (takeL L z) w2) :=
            Lib.hid fun L' w' s => (ref_take s.ref z WZ.out).mono fun e w2 k => s.refs AP.out hBh k
          have HL2 := Lib.hid (takeL_len L z)
          obtain ⟨E, hE⟩ : ∃ E, takeA L z = E := ⟨_, rfl⟩
          obtain ⟨F, hF⟩ : ∃ F, takeE L z = F := ⟨_, rfl⟩
          obtain ⟨L2, hL2⟩ : ∃ L2, takeL L z = L2 := ⟨_, rfl⟩
          rw [hE, hF, hL2] at HM HR
          rw [hL2] at HL2
          clear hx2 hE hF hL2
          go_wp2_with fail
          refine (HM.out _ _ st).mono ?_; rintro e w5 ⟨rfl, hst⟩
          have d1 := hst.c1
          have d2 := hst.c2
          have ST := Lib.hid hst
          have HBB := Lib.hid hbb
          clear hst st hbb c1 c2 c3
          go_wp2_with fail
          refine (HR.out _ _ ST.out).mono ?_; rintro e w6 ⟨rfl, hst⟩
          have ST := Lib.hid hst
          clear hst d1 d2 HM HR t1 t2
          go_wp2_with fail
          obtain ⟨X, hX⟩ : ∃ X, MarkMath.left L2 = X := ⟨_, rfl⟩
          obtain ⟨Y, hY⟩ : ∃ Y, MarkMath.longest L2 = Y := ⟨_, rfl⟩
          have f1 : Hid (∀ w', Both w p g q h bb x y z L2 L2 w' → Calls Try.prog 19 #[.pointer (some ⟨p, 0, none⟩)] w' fun e w2 => e = .returned (.int .i64 (X : Int)) ∧ Both w p g q h bb x y z L2 L2 w2) :=
            Lib.hid fun w' s => (left_any s.marks).mono fun e w2 k => ⟨by rw [k.1, hX], s.grew k.2⟩
          have f2 : Hid (∀ w', Both w p g q h bb x y z L2 L2 w' → Calls Try.prog 20 #[.pointer (some ⟨q, 0, none⟩)] w' fun e w2 => e = .returned (.int .i64 (X : Int)) ∧ w' = w2) :=
            Lib.hid fun w' s => (ref_left s.ref).mono fun e w2 k => ⟨by rw [k.1, hX], k.2⟩
          have f3 : Hid (∀ w', Both w p g q h bb x y z L2 L2 w' → Calls Try.prog 21 #[.pointer (some ⟨p, 0, none⟩)] w' fun e w2 => e = .returned (.int .i64 (Y : Int)) ∧ Both w p g q h bb x y z L2 L2 w2) :=
            Lib.hid fun w' s => (longest_any s.marks).mono fun e w2 k => ⟨by rw [k.1, hY], s.grew k.2⟩
          have f4 : Hid (∀ w', Both w p g q h bb x y z L2 L2 w' → Calls Try.prog 22 #[.pointer (some ⟨q, 0, none⟩)] w' fun e w2 => e = .returned (.int .i64 (Y : Int)) ∧ w' = w2) :=
            Lib.hid fun w' s => (ref_longest s.ref).mono fun e w2 k => ⟨by rw [k.1, hY], k.2⟩
          clear hX hY
          refine (f1.out _ ST.out).mono ?_; rintro e w7 ⟨rfl, hst⟩
          have ST7 := Lib.hid hst
          clear hst ST
          go_wp2_with fail
          refine (f2.out _ ST7.out).mono ?_; rintro e w' ⟨rfl, rfl⟩
          go_wp2_with fail
          refine (f3.out _ ST7.out).mono ?_; rintro e w8 ⟨rfl, hst⟩
          have ST8 := Lib.hid hst
          clear hst ST7
          go_wp2_with fail
          refine (f4.out _ ST8.out).mono ?_; rintro e w' ⟨rfl, rfl⟩
          have hc := ST8.out.ref.head.cell 0
          have hbig := ST8.out.ref.big
          clear f1 f2 f3 f4
          go_wp2
          go_loopw [123] (fun i wi => Looking w p g q h bb x y z L2 i wi) (fun i _ => L2.length - (intOf i).toNat)
          case atStart => exact ⟨0, Nat.zero_le _, rfl, ST8.out⟩
          case round =>
            obtain ⟨j, hj, rfl, hst⟩ := hrel
            have S9 := Lib.hid hst
            clear hst hc
            by_cases hlj : j < L2.length
            · have hcell := S9.out.ref.row.cell j hlj
              obtain ⟨c, hcd⟩ : ∃ c, L2.getD j false = c := ⟨_, rfl⟩
              rw [hcd] at hcell
              have HC := Lib.hid (asked hcd)
              clear hcd
              have tcc : (c == c) = true := by simp
              go_wp2_with fail
              refine (has_any (S9.out.marks.alloc _) _ _ _ [(j : Int)] (Ints.one _ _ _) (by simp) c HC.out).mono ?_; rintro e w' ⟨rfl, rfl⟩
              go_wp2
              go_roundw
              case rel => exact ⟨j + 1, by omega, by go_num, S9.out.alloc _⟩
              case measure => simp [intOf]; omega
            · obtain rfl : j = L2.length := by omega
              go_wp2
              go_roundw
              case rel => exact ⟨k + 1, by omega, by go_num, ⟨L2, S9.out.marks, S9.out.ref, HL2.out.trans HL.out⟩, S9.out.far⟩
              case measure => simp [intOf]; omega
    · obtain rfl : k = l.length := by omega
      clear hlt hk
      have h1 := Lib.hid (show hasAll L [(-1 : Int)] = false by simp [hasAll, hasAt])
      have h2 := Lib.hid (show hasAll L [(N : Int)] = false by
        simp only [hasAll, List.all_cons, List.all_nil, Bool.and_true]
        exact hasAt_out (by rw [HL.out]; exact Nat.le_refl _))
      clear lg lh
      go_wp2_with fail
      refine (has_any (M.out.alloc _) _ _ _ [(-1 : Int)] (Ints.one _ _ _) (by simp) false h1.out).mono ?_; rintro e w' ⟨rfl, rfl⟩
      go_wp2_with fail
      refine (has_any ((M.out.alloc (.cells #[.int .i64 (-1)] 3)).alloc (.cells #[.int .i64 (N : Int)] 3)) _ _ _ [(N : Int)] (oneAt (wr.alloc (.cells #[.int .i64 (-1)] 3)) 3 (N : Int) (wr.heap.size + 1) (by simp)) (by simp) false h2.out).mono ?_; rintro e w' ⟨rfl, rfl⟩
      go_wp2_with fail
      refine (has_none none 0).mono ?_; rintro e w' ⟨rfl, rfl⟩
      go_wp2
      go_ret
      exact ⟨rfl, (B.out.alloc sr _).alloc (Nat.le_trans sr (by simp)) _⟩

theorem walk_none (w : World) (N : Int) (hN : N < 1 ∨ 256 < N) (A : Option Addr) (n cap : Nat) (l : List (Int × Int × Int)) (hl : IsTrips w (.slice A n cap) l) (hs : l.length ≤ 100) :
    Calls Try.prog 3 #[.int .i64 N, .slice A n cap] w fun e w' => e = .returned (.bool true) ∧ Below w.heap.size w w' := by
  obtain rfl := hl.1.len
  have hs' : decide ((100 : Int) < (l.length : Int)) = false := decide_eq_false (by omega)
  clear hl
  have HN1 := Lib.hid (fun w => new_bad N hN w)
  have HN2 := Lib.hid (fun w => ref_new_bad N hN w)
  clear hN
  go_enter Try.func3, Try.ntmps3
  go_wp2_with fail
  refine (alive_any _).mono ?_; rintro e w1 ⟨rfl, hb⟩
  have B1 := Lib.hid hb
  clear hb
  go_wp2_with fail
  refine (HN1.out _).mono ?_; rintro e w' ⟨rfl, rfl⟩
  go_wp2_with fail
  refine (HN2.out _).mono ?_; rintro e w' ⟨rfl, rfl⟩
  go_wp2
  go_ret
  exact ⟨rfl, B1.out⟩
theorem walk_long (w : World) (N : Int) (A : Option Addr) (n cap : Nat) (l : List (Int × Int × Int)) (hl : IsTrips w (.slice A n cap) l) (hs : 100 < l.length) :
    Calls Try.prog 3 #[.int .i64 N, .slice A n cap] w fun e w' => e = .returned (.bool true) ∧ Below w.heap.size w w' := by
  obtain rfl := hl.1.len
  have hs' : decide ((100 : Int) < (l.length : Int)) = true := decide_eq_true (by omega)
  clear hl
  go_enter Try.func3, Try.ntmps3
  go_wp2_with fail
  refine (alive_any _).mono ?_; rintro e w1 ⟨rfl, hb⟩
  have B1 := Lib.hid hb
  clear hb
  go_wp2
  go_ret
  exact ⟨rfl, B1.out⟩

theorem walk (w : World) (N : Int) (h1 : (Lit.int .i64 N).wf = true) {A : Option Addr} {n cap : Nat} (l : List (Int × Int × Int)) (hl : IsTrips w (.slice A n cap) l) :
    Calls Try.prog 3 #[.int .i64 N, .slice A n cap] w fun e w' => e = .returned (.bool true) ∧ Below w.heap.size w w' := by
  by_cases hs : l.length ≤ 100
  · by_cases hN : N < 1 ∨ 256 < N
    · exact walk_none w N hN A n cap l hl hs
    · obtain ⟨N, rfl⟩ := Int.eq_ofNat_of_zero_le (show 0 ≤ N by omega)
      exact walk_short w N (by omega) (by omega) A n cap l hl hs
  · exact walk_long w N A n cap l hl (by omega)
end Go.Proofs.Ytfmbfonnabebmaa.markActs
