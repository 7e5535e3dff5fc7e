/- The document's own arena (allotmentref04): Reserve, where it refuses: contract. -/
import Derived.Test.YtnkahcfkbpbhiaaRefA1
import Derived.Deep.RegionHeld3
namespace Go.Proofs.Ytnkahcfkbpbhiaa
open Go.RowKit ArenaMath
set_option linter.unusedVariables false

theorem RefIs.drewN {w : World} {h : Nat} {s : St} {lv tv : Value} (r : RefIs w h s lv tv) (n : Nat) : RefIs (w.drewN n) h s lv tv := r.upd (w' := w.drewN n) (S := fun _ => False) ⟨rfl, rfl, rfl, Nat.le_refl _, fun _ _ _ => rfl⟩ id (fun _ _ => id) (fun _ _ => id)
def RHeld (w1 : World) (h : Nat) (s1 : St) (lv tv : Value) (w' : World) : Prop := RefIs w' h s1 lv tv ∧ Below w1.heap.size w1 w'
theorem RHeld.drew {w1 : World} {h : Nat} {s1 : St} {lv tv : Value} {w' : World} (k : RHeld w1 h s1 lv tv w') : RHeld w1 h s1 lv tv w'.drew := ⟨k.1.drew, k.2.drew⟩
theorem rheld_given {w1 : World} {h : Nat} {s1 : St} {lv tv : Value} {w' : World} (k : RHeld w1 h s1 lv tv w') (hg : total s1.l ≤ 1000 ∧ s1.l.length ≤ 1000) :
    Calls Try.prog 21 #[.pointer (some ⟨h, 0, none⟩)] w' fun e w2 => e = .returned (.int .i64 ((total s1.l : Nat) : Int)) ∧ RHeld w1 h s1 lv tv w2 :=
  (ref_given k.1 hg.1 hg.2).mono fun e w2 x => ⟨x.1, k.1.grew x.2, k.2.trans (x.2.mono k.2.size)⟩
def Stuck (w1 : World) (h : Nat) (s1 : St) (lv tv : Value) (i : Value) (wr : World) : Prop := i = .int .i64 0 ∧ RHeld w1 h s1 lv tv wr
section
variable {w w' : World} {h : Nat} {s : St} {lv tv : Value}
theorem ref_reserve_far (r : RefIs w h s lv tv) (hg : ArenaMath.Good s) (n : Int) (hn : ¬ (1 ≤ n ∧ n ≤ (s.S : Int))) :
    Calls Try.prog 17 #[.pointer (some ⟨h, 0, none⟩), .int .i64 n] w fun e w' => e = .returned (.tuple #[.int .i64 0, .int .i64 2]) ∧ w = w' := by
  have c0 := r.c0
  clear r hg
  by_cases h0 : n < 1
  · have t0 : decide (n < 1) = true := decide_eq_true h0
    clear hn h0
    go_enter Try.func17, Try.ntmps17
    go_wp2
    go_ret2
    exact ⟨rfl, rfl⟩
  · have t0 : decide (n < 1) = false := decide_eq_false h0
    have t1 : decide ((s.S : Int) < n) = true := decide_eq_true (by omega)
    clear hn h0
    go_enter Try.func17, Try.ntmps17
    go_wp2
    go_ret2
    exact ⟨rfl, rfl⟩
set_option maxRecDepth 100000 in
set_option maxHeartbeats 2000000 in
theorem ref_reserve_told (r : RefIs w h s lv tv) (hg : ArenaMath.Good s) (n : Nat) (h1 : 1 ≤ n) (h2 : n ≤ s.S) (hr : s.r ≤ 1000000000000) (T : List Bool) (hT : s.T = true :: T) :
    Calls Try.prog 17 #[.pointer (some ⟨h, 0, none⟩), .int .i64 (n : Int)] w fun e w' => e = .returned (.tuple #[.int .i64 0, .int .i64 4]) ∧ RefTo w h lv tv s.no w' := by
  have c0 := r.c0
  have c4 := r.c4
  have hS := hg.S2
  have hlim := hg.lim
  have hsum := hg.sum
  have hTl := hg.told
  have hll : s.l.length ≤ 64 := by have := length_le_total hg.ok; omega
  have t0 : decide ((n : Int) < 1) = false := decide_eq_false (by omega)
  have t1 : decide (s.S < n) = false := decide_eq_false (by omega)
  · obtain ⟨ta, tcap, rfl, ht1, ht2⟩ := r.told.shape
    obtain ⟨tb, toff, rfl, htc⟩ := r.told.seq.elem (i := 0) (x := true) (by rw [hT]; rfl)
    have hcell := htc 0 (.bool true) rfl
    simp only [Nat.zero_mul, Nat.add_zero] at hcell
    obtain ⟨sv, hsv, hsin, _, hvec⟩ := cut_from (E := Elem.bools) (P := Try.prog) 31 Try.underlying31 sizeBs (some ⟨tb, toff, none⟩) s.T.length tcap 1 (by rw [hT]; simp) ht1
    rw [show ((1 : Nat) : Int) = (1 : Int) from rfl] at hsv
    obtain ⟨xa, xn, xcap, rfl⟩ := (hvec _ _ r.told).is
    obtain ⟨nt, hnt⟩ : ∃ nt, s.T.length = nt := ⟨_, rfl⟩
    have hnt1 : 1 ≤ nt := by rw [← hnt, hT]; simp
    have tn : decide (0 < nt) = true := decide_eq_true (by omega)
    have tn2 : decide ((0 : Int) < (nt : Int)) = true := decide_eq_true (by omega)
    obtain ⟨w1, hw1⟩ : ∃ w1, w.setCell ⟨h, 4, none⟩ (.slice xa xn xcap) = w1 := ⟨_, rfl⟩
    have f4 : w.frozen? ⟨h, 4, none⟩ = false := r.head.frozen 4
    have hnx : ∀ k, In (.slice xa xn xcap) k → k ≠ h := fun k hk e => r.nt (e ▸ hsin k hk)
    have hu := upd_cell w h 4 (.slice xa xn xcap)
    have R1 : Hid (RefIs w1 h { s with T := s.T.drop 1 } lv (.slice xa xn xcap)) := Lib.hid (by
      rw [← hw1]
      exact ⟨r.head.put 4 _, r.list.upd hu (fun k hk e => r.nl (e ▸ hk)), (hvec _ _ r.told).upd hu hnx, r.nl, fun hk => hnx h hk rfl⟩)
    have U1 : Hid (Upd (fun k => k = h) w w1) := Lib.hid (by rw [← hw1]; exact hu)
    have hin1 : Hid (∀ k, In (.slice xa xn xcap) k → In (.slice (some ⟨tb, toff, none⟩) s.T.length tcap) k ∨ w.heap.size ≤ k) := Lib.hid fun k hk => .inl (hsin k hk)
    obtain ⟨s1, hs1⟩ : ∃ s1 : St, s1 = { s with T := s.T.drop 1 } := ⟨_, rfl⟩
    rw [← hs1] at R1
    have e1 : s1.S = s.S ∧ s1.lim = s.lim ∧ s1.l = s.l ∧ s1.r = s.r := by rw [hs1]; exact ⟨rfl, rfl, rfl, rfl⟩
    rw [hnt] at c4 hsv ht1 hTl hin1 ⊢
    obtain ⟨tv1, htv1⟩ : ∃ tv1, Value.slice xa xn xcap = tv1 := ⟨_, rfl⟩
    rw [htv1] at R1 hin1
    have HW1 := Lib.hid hw1
    have HT := Lib.hid hT
    have HS1 := Lib.hid hs1
    clear hT hs1 htv1 hnx hu hvec hsin htc hnt
    have HR0 := Lib.hid hr
    obtain ⟨eS, eL, el, er⟩ := e1
    clear r hg
    go_enter Try.func17, Try.ntmps17
    go_wp2
    try rw [hw1]
    clear hw1 tn tn2
    go_loopw [7] (fun i wr => Stuck w1 h s1 lv tv1 i wr) (fun i _ => 0)
    case atStart => exact ⟨rfl, R1.out, Below.refl _ _⟩
    case round =>
      obtain ⟨rfl, hst⟩ := hrel
      have ST : Hid (RHeld w1 h s1 lv tv1 wr) := Lib.hid hst
      have d0 := hst.1.c0
      have d1 := hst.1.c1
      rw [eS] at d0
      rw [eL] at d1
      clear hst
      have p1 : decide (0 < s.S) = true := decide_eq_true (by omega)
      have p2 : decide ((0 : Int) < (s.S : Int)) = true := decide_eq_true (by omega)
      go_wp2
      go_quiet (fail)
      have r2 := ST.out.1.drewN nq
      have f2 := r2.head.frozen 2
      have x2 := r2.c2
      rw [er] at x2
      have R2 := Lib.hid r2
      have rb := HR0.out
      clear d0 d1 p1 p2 r2
      go_wp2
      go_ret2
      refine ⟨rfl, ?_⟩
      have hu2 := upd_cell (wr.drewN nq) h 2 (.int .i64 ((s.r : Int) + 1))
      have R3 := R2.out
      refine ⟨⟨lv, tv1, ⟨?_, ?_, ?_, R3.nl, R3.nt⟩, fun k hk => .inl hk, hin1.out⟩, ?_⟩
      · have := R3.head.put 2 (.int .i64 ((s.r : Int) + 1))
        rw [HS1.out] at this
        exact this
      · have := R3.list.upd hu2 (fun k hk e => R3.nl (e ▸ hk))
        rw [HS1.out] at this
        exact this
      · have := R3.told.upd hu2 (fun k hk e => R3.nt (e ▸ hk))
        rw [HS1.out] at this
        exact this
      · exact (U1.out.trans ((updFalse_of (show Below w1.heap.size w1 (wr.drewN nq) from ST.out.2.trans ⟨rfl, rfl, rfl, Nat.le_refl _, fun _ _ => rfl⟩)).mono (fun k hk => hk.elim))).trans hu2
set_option maxRecDepth 100000 in
set_option maxHeartbeats 2000000 in
theorem ref_reserve_over (r : RefIs w h s lv tv) (hg : ArenaMath.Good s) (n : Nat) (h1 : 1 ≤ n) (h2 : n ≤ s.S) (hr : s.r ≤ 1000000000000) (hT : s.T.headD false = false) (ho : s.lim < total s.l + n) :
    Calls Try.prog 17 #[.pointer (some ⟨h, 0, none⟩), .int .i64 (n : Int)] w fun e w' => e = .returned (.tuple #[.int .i64 0, .int .i64 4]) ∧ RefTo w h lv tv s.no w' := by
  have c0 := r.c0
  have c4 := r.c4
  have hS := hg.S2
  have hlim := hg.lim
  have hsum := hg.sum
  have hTl := hg.told
  have hll : s.l.length ≤ 64 := by have := length_le_total hg.ok; omega
  have t0 : decide ((n : Int) < 1) = false := decide_eq_false (by omega)
  have t1 : decide (s.S < n) = false := decide_eq_false (by omega)
  have hg1' : total s.l ≤ 1000 ∧ s.l.length ≤ 1000 := ⟨by omega, by omega⟩
  rcases hT' : s.T with _ | ⟨b, T⟩
  · have hT := hT'
    clear hT'
    obtain ⟨ta, tcap, rfl, _, _⟩ := r.told.shape
    rw [hT] at c4
    simp only [List.length_nil] at c4
    have R1 : Hid (RefIs w h { s with T := s.T.drop 1 } lv (.slice ta s.T.length tcap)) := Lib.hid (by
      have : ({ s with T := s.T.drop 1 } : St) = s := by rw [hT]; cases s; simp_all
      rw [this]; exact r)
    have U1 : Hid (Upd (fun k => k = h) w w) := Lib.hid (Upd.refl _ _)
    have hin1 : Hid (∀ k, In (.slice ta s.T.length tcap) k → In (.slice ta s.T.length tcap) k ∨ w.heap.size ≤ k) := Lib.hid fun k hk => .inl hk
    obtain ⟨s1, hs1⟩ : ∃ s1 : St, s1 = { s with T := s.T.drop 1 } := ⟨_, rfl⟩
    rw [← hs1] at R1
    have e1 : s1.S = s.S ∧ s1.lim = s.lim ∧ s1.l = s.l ∧ s1.r = s.r := by rw [hs1]; exact ⟨rfl, rfl, rfl, rfl⟩
    obtain ⟨tv1, htv1⟩ : ∃ tv1, Value.slice ta s.T.length tcap = tv1 := ⟨_, rfl⟩
    rw [htv1] at R1 hin1 ⊢
    have HT := Lib.hid hT
    have HS1 := Lib.hid hs1
    clear hT hs1 htv1
    have hg1 : Hid (total s1.l ≤ 1000 ∧ s1.l.length ≤ 1000) := Lib.hid (by rw [e1.2.2.1]; exact hg1')
    have HR0 := Lib.hid hr
    obtain ⟨eS, eL, el, er⟩ := e1
    clear r hg
    go_enter Try.func17, Try.ntmps17
    go_wp2
    go_loopw [7] (fun i wr => Stuck w h s1 lv tv1 i wr) (fun i _ => 0)
    case atStart => exact ⟨rfl, R1.out, Below.refl _ _⟩
    case round =>
      obtain ⟨rfl, hst⟩ := hrel
      have ST : Hid (RHeld w h s1 lv tv1 wr) := Lib.hid hst
      have d0 := hst.1.c0
      have d1 := hst.1.c1
      rw [eS] at d0
      rw [eL] at d1
      clear hst
      have p1 : decide (0 < s.S) = true := decide_eq_true (by omega)
      have p2 : decide ((0 : Int) < (s.S : Int)) = true := decide_eq_true (by omega)
      have p3 : decide (((total s.l : Nat) : Int) + (n : Int) ≤ (s.lim : Int)) = false := decide_eq_false (by omega)
      have hrg := fun (w' : World) (k : RHeld w h s1 lv tv1 w') => rheld_given k hg1.out
      rw [el] at hrg
      have HG := Lib.hid hrg
      obtain ⟨tl, htl⟩ : ∃ tl, total s.l = tl := ⟨_, rfl⟩
      rw [htl] at p3 HG hsum
      have hwr : IntKind.i64.wrap ((tl : Int) + (n : Int)) = (tl : Int) + (n : Int) := IntWalk.i64_in _ ⟨by omega, by omega⟩
      clear hrg htl
      go_wp2
      go_region_held3 (fun w' => w'.cell? ⟨h, 0, none⟩ = some (.int .i64 (s.S : Int)) ∧ w'.cell? ⟨h, 1, none⟩ = some (.int .i64 (s.lim : Int))) (first | go_keep | exact ⟨d0, d1⟩)
        (first
          | (go_at_call 21; (first | (with_reducible refine (HG.out _ ST.out.drew).mono ?_) | (with_reducible refine (HG.out _ ST.out).mono ?_)); rintro e w5 ⟨rfl, hst⟩; have d0 := hst.1.c0; have d1 := hst.1.c1; rw [eS] at d0; rw [eL] at d1; have ST := Lib.hid hst; clear hst))
      have r2 := ST.out.1
      have f2 := r2.head.frozen 2
      have x2 := r2.c2
      rw [er] at x2
      have R2 := Lib.hid r2
      have rb := HR0.out
      clear d0 d1 p1 p2 r2
      go_wp2
      go_ret2
      refine ⟨rfl, ?_⟩
      have hu2 := upd_cell w5 h 2 (.int .i64 ((s.r : Int) + 1))
      have R3 := R2.out
      refine ⟨⟨lv, tv1, ⟨?_, ?_, ?_, R3.nl, R3.nt⟩, fun k hk => .inl hk, hin1.out⟩, ?_⟩
      · have := R3.head.put 2 (.int .i64 ((s.r : Int) + 1))
        rw [HS1.out] at this
        exact this
      · have := R3.list.upd hu2 (fun k hk e => R3.nl (e ▸ hk))
        rw [HS1.out] at this
        exact this
      · have := R3.told.upd hu2 (fun k hk e => R3.nt (e ▸ hk))
        rw [HS1.out] at this
        exact this
      · exact (U1.out.trans ((updFalse_of ST.out.2).mono (fun k hk => hk.elim))).trans hu2
  · obtain rfl : b = false := by rw [hT'] at hT; exact hT
    clear hT
    have hT := hT'
    clear hT'
    obtain ⟨ta, tcap, rfl, ht1, ht2⟩ := r.told.shape
    obtain ⟨tb, toff, rfl, htc⟩ := r.told.seq.elem (i := 0) (x := false) (by rw [hT]; rfl)
    have hcell := htc 0 (.bool false) rfl
    simp only [Nat.zero_mul, Nat.add_zero] at hcell
    obtain ⟨sv, hsv, hsin, _, hvec⟩ := cut_from (E := Elem.bools) (P := Try.prog) 31 Try.underlying31 sizeBs (some ⟨tb, toff, none⟩) s.T.length tcap 1 (by rw [hT]; simp) ht1
    rw [show ((1 : Nat) : Int) = (1 : Int) from rfl] at hsv
    obtain ⟨xa, xn, xcap, rfl⟩ := (hvec _ _ r.told).is
    obtain ⟨nt, hnt⟩ : ∃ nt, s.T.length = nt := ⟨_, rfl⟩
    have hnt1 : 1 ≤ nt := by rw [← hnt, hT]; simp
    have tn : decide (0 < nt) = true := decide_eq_true (by omega)
    have tn2 : decide ((0 : Int) < (nt : Int)) = true := decide_eq_true (by omega)
    obtain ⟨w1, hw1⟩ : ∃ w1, w.setCell ⟨h, 4, none⟩ (.slice xa xn xcap) = w1 := ⟨_, rfl⟩
    have f4 : w.frozen? ⟨h, 4, none⟩ = false := r.head.frozen 4
    have hnx : ∀ k, In (.slice xa xn xcap) k → k ≠ h := fun k hk e => r.nt (e ▸ hsin k hk)
    have hu := upd_cell w h 4 (.slice xa xn xcap)
    have R1 : Hid (RefIs w1 h { s with T := s.T.drop 1 } lv (.slice xa xn xcap)) := Lib.hid (by
      rw [← hw1]
      exact ⟨r.head.put 4 _, r.list.upd hu (fun k hk e => r.nl (e ▸ hk)), (hvec _ _ r.told).upd hu hnx, r.nl, fun hk => hnx h hk rfl⟩)
    have U1 : Hid (Upd (fun k => k = h) w w1) := Lib.hid (by rw [← hw1]; exact hu)
    have hin1 : Hid (∀ k, In (.slice xa xn xcap) k → In (.slice (some ⟨tb, toff, none⟩) s.T.length tcap) k ∨ w.heap.size ≤ k) := Lib.hid fun k hk => .inl (hsin k hk)
    obtain ⟨s1, hs1⟩ : ∃ s1 : St, s1 = { s with T := s.T.drop 1 } := ⟨_, rfl⟩
    rw [← hs1] at R1
    have e1 : s1.S = s.S ∧ s1.lim = s.lim ∧ s1.l = s.l ∧ s1.r = s.r := by rw [hs1]; exact ⟨rfl, rfl, rfl, rfl⟩
    rw [hnt] at c4 hsv ht1 hTl hin1 ⊢
    obtain ⟨tv1, htv1⟩ : ∃ tv1, Value.slice xa xn xcap = tv1 := ⟨_, rfl⟩
    rw [htv1] at R1 hin1
    have HW1 := Lib.hid hw1
    have HT := Lib.hid hT
    have HS1 := Lib.hid hs1
    clear hT hs1 htv1 hnx hu hvec hsin htc hnt
    have hg1 : Hid (total s1.l ≤ 1000 ∧ s1.l.length ≤ 1000) := Lib.hid (by rw [e1.2.2.1]; exact hg1')
    have HR0 := Lib.hid hr
    obtain ⟨eS, eL, el, er⟩ := e1
    clear r hg
    go_enter Try.func17, Try.ntmps17
    go_wp2
    try rw [hw1]
    clear hw1 tn tn2
    go_loopw [7] (fun i wr => Stuck w1 h s1 lv tv1 i wr) (fun i _ => 0)
    case atStart => exact ⟨rfl, R1.out, Below.refl _ _⟩
    case round =>
      obtain ⟨rfl, hst⟩ := hrel
      have ST : Hid (RHeld w1 h s1 lv tv1 wr) := Lib.hid hst
      have d0 := hst.1.c0
      have d1 := hst.1.c1
      rw [eS] at d0
      rw [eL] at d1
      clear hst
      have p1 : decide (0 < s.S) = true := decide_eq_true (by omega)
      have p2 : decide ((0 : Int) < (s.S : Int)) = true := decide_eq_true (by omega)
      have p3 : decide (((total s.l : Nat) : Int) + (n : Int) ≤ (s.lim : Int)) = false := decide_eq_false (by omega)
      have hrg := fun (w' : World) (k : RHeld w1 h s1 lv tv1 w') => rheld_given k hg1.out
      rw [el] at hrg
      have HG := Lib.hid hrg
      obtain ⟨tl, htl⟩ : ∃ tl, total s.l = tl := ⟨_, rfl⟩
      rw [htl] at p3 HG hsum
      have hwr : IntKind.i64.wrap ((tl : Int) + (n : Int)) = (tl : Int) + (n : Int) := IntWalk.i64_in _ ⟨by omega, by omega⟩
      clear hrg htl
      go_wp2
      go_region_held3 (fun w' => w'.cell? ⟨h, 0, none⟩ = some (.int .i64 (s.S : Int)) ∧ w'.cell? ⟨h, 1, none⟩ = some (.int .i64 (s.lim : Int))) (first | go_keep | exact ⟨d0, d1⟩)
        (first
          | (go_at_call 21; (first | (with_reducible refine (HG.out _ ST.out.drew).mono ?_) | (with_reducible refine (HG.out _ ST.out).mono ?_)); rintro e w5 ⟨rfl, hst⟩; have d0 := hst.1.c0; have d1 := hst.1.c1; rw [eS] at d0; rw [eL] at d1; have ST := Lib.hid hst; clear hst))
      have r2 := ST.out.1
      have f2 := r2.head.frozen 2
      have x2 := r2.c2
      rw [er] at x2
      have R2 := Lib.hid r2
      have rb := HR0.out
      clear d0 d1 p1 p2 r2
      go_wp2
      go_ret2
      refine ⟨rfl, ?_⟩
      have hu2 := upd_cell w5 h 2 (.int .i64 ((s.r : Int) + 1))
      have R3 := R2.out
      refine ⟨⟨lv, tv1, ⟨?_, ?_, ?_, R3.nl, R3.nt⟩, fun k hk => .inl hk, hin1.out⟩, ?_⟩
      · have := R3.head.put 2 (.int .i64 ((s.r : Int) + 1))
        rw [HS1.out] at this
        exact this
      · have := R3.list.upd hu2 (fun k hk e => R3.nl (e ▸ hk))
        rw [HS1.out] at this
        exact this
      · have := R3.told.upd hu2 (fun k hk e => R3.nt (e ▸ hk))
        rw [HS1.out] at this
        exact this
      · exact (U1.out.trans ((updFalse_of ST.out.2).mono (fun k hk => hk.elim))).trans hu2
end
end Go.Proofs.Ytnkahcfkbpbhiaa
