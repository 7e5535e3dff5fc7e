/- The arena (layer 4): Release, Reserve; all contracts in one form: what an arena is, and what a call makes of it. -/
import Derived.Test.YtnkahcfkbpbhiaaArena2
import Derived.RegionTactic
import Derived.Deep.RegionWith
namespace Go.Proofs.Ytnkahcfkbpbhiaa
open Go.RowKit
set_option linter.unusedVariables false

/-- What became of an arena that was whole in w. -/
def Now (w : World) (q p g rb : Nat) (tv : Value) (S lim : Nat) (T : List Bool) (r : Nat) (R : List Nat) (L : List Bool) (w' : World) : Prop :=
  ∃ tv', Raw w' q p g rb tv' S lim T r R L ∧ (∀ k, In tv' k → In tv k ∨ w.heap.size ≤ k) ∧ Upd (Mine q p g rb tv) w w'
section
variable {w w' : World} {q p g rb : Nat} {tv : Value} {S lim : Nat} {T : List Bool} {r : Nat} {R : List Nat} {L : List Bool}
theorem Now.start (h : Raw w q p g rb tv S lim T r R L) : Now w q p g rb tv S lim T r R L w := ⟨tv, h, fun k h => .inl h, Upd.refl _ _⟩
theorem Now.drew (s : Now w q p g rb tv S lim T r R L w') : Now w q p g rb tv S lim T r R L w'.drew := by
  obtain ⟨tv', h, hi, u⟩ := s
  exact ⟨tv', h.drew, hi, u.drew⟩
theorem Now.c0 (s : Now w q p g rb tv S lim T r R L w') : w'.cell? ⟨q, 0, none⟩ = some (.pointer (some ⟨p, 0, none⟩)) := by obtain ⟨_, h, _⟩ := s; exact h.c0
theorem Now.c1 (s : Now w q p g rb tv S lim T r R L w') : w'.cell? ⟨q, 1, none⟩ = some (.slice (some ⟨rb, 0, none⟩) S S) := by obtain ⟨_, h, _⟩ := s; exact h.c1
theorem Now.c2 (s : Now w q p g rb tv S lim T r R L w') : w'.cell? ⟨q, 2, none⟩ = some (.int .i64 (lim : Int)) := by obtain ⟨_, h, _⟩ := s; exact h.c2
theorem Now.cr (s : Now w q p g rb tv S lim T r R L w') (j : Nat) (hj : j < S) : w'.cell? ⟨rb, j, none⟩ = some (.int .i64 ((R.getD j 0 : Nat) : Int)) := by obtain ⟨_, h, _⟩ := s; exact row_cell h.regs j (by rw [h.lenR]; exact hj)
theorem Now.fr (s : Now w q p g rb tv S lim T r R L w') (j : Nat) : w'.frozen? ⟨rb, j, none⟩ = false := by obtain ⟨_, h, _⟩ := s; exact h.regs.frozen j
theorem Now.len (s : Now w q p g rb tv S lim T r R L w') : R.length = S := by obtain ⟨_, h, _⟩ := s; exact h.lenR
theorem Now.qr (s : Now w q p g rb tv S lim T r R L w') : q ≠ rb := by obtain ⟨_, h, _⟩ := s; exact h.sep.qr
theorem Now.store (s : Now w q p g rb tv S lim T r R L w') (a n : Nat) (X : Int) (hX : X = (n : Int)) : Now w q p g rb tv S lim T r (R.set a n) L (w'.setCell ⟨rb, a, none⟩ (.int .i64 X)) := by
  obtain ⟨tv', h, hi, u⟩ := s
  exact ⟨tv', h.region a n X hX, hi, u.trans ((upd_cell w' rb a _).mono (fun k hk => .inr (.inr (.inr (.inl hk)))))⟩
theorem Now.next (s : Now w q p g rb tv S lim T r R L w') (hT : T.length ≤ 1000) : Calls Try.prog 28 #[.pointer (some ⟨q, 0, none⟩)] w' fun e w2 => e = .returned (.bool (T.headD false)) ∧ Now w q p g rb tv S lim (T.drop 1) r R L w2 := by
  obtain ⟨tv', h, hi, u⟩ := s
  refine (next_raw h hT).mono ?_
  rintro e w2 ⟨rfl, ⟨tv2, h2, hi2⟩, u2⟩
  exact ⟨rfl, tv2, h2, fun k hk => hi k (hi2 k hk), u.trans (u2.mono (fun k hk => .inl hk))⟩
theorem Now.full (s : Now w q p g rb tv S lim T r R L w') (hr : r ≤ 1000000000000) : Calls Try.prog 29 #[.pointer (some ⟨q, 0, none⟩)] w' fun e w2 => e = .returned (.tuple #[.int .i64 0, .int .i64 4]) ∧ Now w q p g rb tv S lim T (r + 1) R L w2 := by
  obtain ⟨tv', h, hi, u⟩ := s
  refine (full_raw h hr).mono ?_
  rintro e w2 ⟨rfl, h2, u2⟩
  exact ⟨rfl, tv', h2, hi, u.trans (u2.mono (fun k hk => .inl hk))⟩
theorem Now.given (s : Now w q p g rb tv S lim T r R L w') (n : Nat) (hn : MarkMath.left L + n = S) (hS : S ≤ 64) : Calls Try.prog 20 #[.pointer (some ⟨q, 0, none⟩)] w' fun e w2 => e = .returned (.int .i64 (n : Int)) ∧ Now w q p g rb tv S lim T r R L w2 := by
  obtain ⟨tv', h, hi, u⟩ := s
  refine (given_raw h n hn hS).mono ?_
  rintro e w2 ⟨rfl, hb⟩
  exact ⟨rfl, tv', h.grew hb, hi, u.trans ((updFalse_of hb).mono (fun k hk => hk.elim))⟩
theorem Now.take (s : Now w q p g rb tv S lim T r R L w') (k : Int) : Calls Try.prog 30 #[.pointer (some ⟨p, 0, none⟩), .int .i64 k] w' fun e w2 => e = .returned (.tuple #[.int .i64 (takeA L k), .int .i64 (takeE L k)]) ∧ Now w q p g rb tv S lim T r R (takeL L k) w2 := by
  obtain ⟨tv', h, hi, u⟩ := s
  refine (take_any h.marks k).mono ?_
  rintro e w2 ⟨rfl, hm, u2⟩
  exact ⟨rfl, tv', h.marked hm u2, hi, u.trans (u2.mono (fun k hk => .inr (.inr (.inl hk))))⟩
theorem Now.free (s : Now w q p g rb tv S lim T r R L w') {a k : Nat} (ha : a ≤ 1000) (hk : 1 ≤ k) (hk2 : k ≤ 1000) (hf : MarkMath.allAt L a k true) : Calls Try.prog 27 #[.pointer (some ⟨p, 0, none⟩), .int .i64 (a : Int), .int .i64 (k : Int)] w' fun e w2 => e = .returned (.int .i64 0) ∧ Now w q p g rb tv S lim T r R (MarkMath.setAt L a k false) w2 := by
  obtain ⟨tv', h, hi, u⟩ := s
  have hm := free_any h.marks (a : Int) (k : Int) (wf_small a (by omega)) (wf_small k (by omega))
  rw [turnE_yes hk hf, turnL_yes hk hf] at hm
  refine hm.mono ?_
  rintro e w2 ⟨rfl, hm, u2⟩
  exact ⟨rfl, tv', h.marked hm u2, hi, u.trans (u2.mono (fun k hk => .inr (.inr (.inl hk))))⟩
theorem Now.refuse (s : Now w q p g rb tv S lim T r R L w') (hT : T.length ≤ 1000) {v : Value} {m : List Bool} (hv : Seq Elem.bools w' v m) (hm : T.length + m.length ≤ 1000) :
    Calls Try.prog 14 #[.pointer (some ⟨q, 0, none⟩), v] w' fun e w2 => e = .returned (.int .i64 0) ∧ Now w q p g rb tv S lim (T ++ m) r R L w2 := by
  obtain ⟨tv', h, hi, u⟩ := s
  refine (refuse_raw h hT hv hm).mono ?_
  rintro e w2 ⟨rfl, ⟨tv2, h2, hi2⟩, u2⟩
  refine ⟨rfl, tv2, h2, fun k hk => ?_, u.step u2 (fun k hk => ?_)⟩
  · rcases hi2 k hk with h | h
    · exact hi k h
    · exact .inr (Nat.le_trans u.size h)
  · rcases hk with hk | hk
    · exact .inl (.inl hk)
    · rcases hi k hk with h | h
      · exact .inl (.inr (.inr (.inr (.inr h))))
      · exact .inr h

/-! ### Release -/
theorem release_no (h : Raw w q p g rb tv S lim T r R L) (a : Int) (hS : S ≤ 64) (hn : ∀ j : Nat, a = (j : Int) → j < S → R.getD j 0 = 0) : Calls Try.prog 12 #[.pointer (some ⟨q, 0, none⟩), .int .i64 a] w fun e w' => e = .returned (.int .i64 5) ∧ w = w' := by
  have c1 := h.c1
  by_cases h0 : a < 0
  · have t0 : decide (a < 0) = true := decide_eq_true h0
    clear h hn h0
    go_enter Try.func12, Try.ntmps12
    go_wp2
    go_ret
    exact ⟨rfl, rfl⟩
  · have t0 : decide (a < 0) = false := decide_eq_false h0
    obtain ⟨j, rfl⟩ := Int.eq_ofNat_of_zero_le (show 0 ≤ a by omega)
    by_cases hj : S ≤ j
    · have t1 : decide (S ≤ j) = true := decide_eq_true hj
      have t2 : decide ((S : Int) ≤ (j : Int)) = true := decide_eq_true (by omega)
      clear h hn h0
      go_enter Try.func12, Try.ntmps12
      go_wp2
      go_ret
      exact ⟨rfl, rfl⟩
    · have t1 : decide (S ≤ j) = false := decide_eq_false hj
      have t2 : decide ((S : Int) ≤ (j : Int)) = false := decide_eq_false (by omega)
      have hcell := row_cell h.regs j (by rw [h.lenR]; omega)
      rw [hn j rfl (by omega)] at hcell
      have hjs : j < S := by omega
      clear h hn h0 hj
      go_enter Try.func12, Try.ntmps12
      go_wp2
      go_ret
      exact ⟨rfl, rfl⟩
theorem release_nil (w : World) (a : Int) : Calls Try.prog 12 #[.pointer none, .int .i64 a] w fun e w' => e = .returned (.int .i64 1) ∧ w = w' := by
  go_enter Try.func12, Try.ntmps12
  go_wp2
  go_ret
  exact ⟨rfl, rfl⟩
theorem release_yes (h : Raw w q p g rb tv S lim T r R L) (a n : Nat) (hS : S ≤ 64) (hn : 1 ≤ n) (ha : a + n ≤ S) (hR : R.getD a 0 = n) (hL : MarkMath.allAt L a n true) : Calls Try.prog 12 #[.pointer (some ⟨q, 0, none⟩), .int .i64 (a : Int)] w fun e w' =>
    e = .returned (.int .i64 0) ∧ Now w q p g rb tv S lim T r (R.set a 0) (MarkMath.setAt L a n false) w' := by
  have c0 := h.c0
  have c1 := h.c1
  have hcell := row_cell h.regs a (by rw [h.lenR]; omega)
  rw [hR] at hcell
  have hfr : w.frozen? ⟨rb, a, none⟩ = false := h.regs.frozen a
  have hqr : q ≠ rb := h.sep.qr
  have t0 : decide ((a : Int) < 0) = false := decide_eq_false (by omega)
  have t1 : decide (S ≤ a) = false := decide_eq_false (by omega)
  have t2 : decide ((S : Int) ≤ (a : Int)) = false := decide_eq_false (by omega)
  have t3 : ((n : Int) == 0) = false := by rw [beq_eq_false_iff_ne]; omega
  have has : a < S := by omega
  have HN : Hid (Now w q p g rb tv S lim T r (R.set a 0) L (w.setCell ⟨rb, a, none⟩ (.int .i64 0))) := Lib.hid ((Now.start h).store a 0 0 rfl)
  have HF := Lib.hid (fun w' (s : Now w q p g rb tv S lim T r (R.set a 0) L w') => Now.free s (a := a) (k := n) (by omega) hn (by omega) hL)
  have c0' := HN.out.c0
  clear h hR hL hn ha hS
  go_enter Try.func12, Try.ntmps12
  go_wp2_with fail
  refine (HF.out _ HN.out).mono ?_; rintro e w2 ⟨rfl, hs⟩
  have ST := Lib.hid hs
  clear hs
  go_wp2
  go_ret
  exact ⟨rfl, ST.out⟩

/-! ### Reserve -/
theorem reserve_out (h : Raw w q p g rb tv S lim T r R L) (n : Int) (hS : S ≤ 64) (hn : ¬ (1 ≤ n ∧ n ≤ (S : Int))) : Calls Try.prog 16 #[.pointer (some ⟨q, 0, none⟩), .int .i64 n] w fun e w' => e = .returned (.tuple #[.int .i64 0, .int .i64 2]) ∧ w = w' := by
  have c1 := h.c1
  clear h
  by_cases h0 : n < 1
  · have t0 : decide (n < 1) = true := decide_eq_true h0
    clear hn h0
    go_enter Try.func16, Try.ntmps16
    go_wp2
    go_ret2
    exact ⟨rfl, rfl⟩
  · have t0 : decide (n < 1) = false := decide_eq_false h0
    have t1 : decide ((S : Int) < n) = true := decide_eq_true (by omega)
    clear hn h0
    go_enter Try.func16, Try.ntmps16
    go_wp2
    go_ret2
    exact ⟨rfl, rfl⟩
theorem reserve_over (h : Raw w q p g rb tv S lim T r R L) (n : Nat) (h1 : 1 ≤ n) (h2 : n ≤ S) (hS : S ≤ 64) (hlim : lim ≤ S) (hT : T.length ≤ 1000) (hr : r ≤ 1000000000000) (ht : T.headD false = false) (m : Nat) (hm : MarkMath.left L + m = S) (hl : lim < m + n) : Calls Try.prog 16 #[.pointer (some ⟨q, 0, none⟩), .int .i64 (n : Int)] w fun e w' =>
    e = .returned (.tuple #[.int .i64 0, .int .i64 4]) ∧ Now w q p g rb tv S lim (T.drop 1) (r + 1) R L w' := by
  have c1 := h.c1
  have d2 := h.c2
  have t0 : decide ((n : Int) < 1) = false := decide_eq_false (by omega)
  have t1 : decide (S < n) = false := decide_eq_false (by omega)
  have t2 : decide ((lim : Int) - (m : Int) < (n : Int)) = true := decide_eq_true (by omega)
  have hm2 : m ≤ 64 := by omega
  have hwr : IntKind.i64.wrap ((lim : Int) - (m : Int)) = (lim : Int) - (m : Int) := IntWalk.i64_in _ ⟨by omega, by omega⟩
  have HN := Lib.hid (fun w' (s : Now w q p g rb tv S lim T r R L w') => (s.next hT).mono (R' := fun e w2 => e = .returned (.bool false) ∧ Now w q p g rb tv S lim (T.drop 1) r R L w2) fun e w2 k => ⟨by rw [k.1, ht], k.2⟩)
  have HG := Lib.hid (fun w' (s : Now w q p g rb tv S lim (T.drop 1) r R L w') => s.given m hm hS)
  have HF := Lib.hid (fun w' (s : Now w q p g rb tv S lim (T.drop 1) r R L w') => s.full hr)
  have ST := Lib.hid (Now.start h)
  clear h ht hT hm hl
  go_enter Try.func16, Try.ntmps16
  go_wp2_with fail
  go_region_held3 (fun w' => w'.cell? ⟨q, 2, none⟩ = some (.int .i64 (lim : Int))) (first | go_keep | exact d2)
    (first
      | (go_at_call 28; (first | (with_reducible refine (HN.out _ ST.out.drew).mono ?_) | (with_reducible refine (HN.out _ ST.out).mono ?_)); rintro e w5 ⟨rfl, hst⟩; have d2 := hst.c2; have ST := Lib.hid hst; clear hst)
      | (go_at_call 20; (first | (with_reducible refine (HG.out _ ST.out.drew).mono ?_) | (with_reducible refine (HG.out _ ST.out).mono ?_)); rintro e w5 ⟨rfl, hst⟩; have d2 := hst.c2; have ST := Lib.hid hst; clear hst))
  go_wp2_with fail
  refine (HF.out _ ST.out).mono ?_; rintro e w2 ⟨rfl, hs⟩
  have ST2 := Lib.hid hs
  clear hs
  go_wp2
  go_ret2
  exact ⟨rfl, ST2.out⟩
theorem reserve_full (h : Raw w q p g rb tv S lim T r R L) (n : Nat) (h1 : 1 ≤ n) (h2 : n ≤ S) (hS : S ≤ 64) (hlim : lim ≤ S) (hT : T.length ≤ 1000) (hr : r ≤ 1000000000000) (ht : T.headD false = false) (m : Nat) (hm : MarkMath.left L + m = S) (hl : m + n ≤ lim)
    (hlen : L.length = S) (hlow : MarkMath.low L n = none) : Calls Try.prog 16 #[.pointer (some ⟨q, 0, none⟩), .int .i64 (n : Int)] w fun e w' =>
    e = .returned (.tuple #[.int .i64 0, .int .i64 4]) ∧ Now w q p g rb tv S lim (T.drop 1) (r + 1) R L w' := by
  have c1 := h.c1
  have d0 := h.c0
  have d2 := h.c2
  have t0 : decide ((n : Int) < 1) = false := decide_eq_false (by omega)
  have t1 : decide (S < n) = false := decide_eq_false (by omega)
  have t2 : decide ((lim : Int) - (m : Int) < (n : Int)) = false := decide_eq_false (by omega)
  have hm2 : m ≤ 64 := by omega
  have hwr : IntKind.i64.wrap ((lim : Int) - (m : Int)) = (lim : Int) - (m : Int) := IntWalk.i64_in _ ⟨by omega, by omega⟩
  obtain ⟨e1, e2, e3⟩ := take_full (L := L) h1 (by omega) hlow
  have HN := Lib.hid (fun w' (s : Now w q p g rb tv S lim T r R L w') => (s.next hT).mono (R' := fun e w2 => e = .returned (.bool false) ∧ Now w q p g rb tv S lim (T.drop 1) r R L w2) fun e w2 k => ⟨by rw [k.1, ht], k.2⟩)
  have HG := Lib.hid (fun w' (s : Now w q p g rb tv S lim (T.drop 1) r R L w') => s.given m hm hS)
  have HF := Lib.hid (fun w' (s : Now w q p g rb tv S lim (T.drop 1) r R L w') => s.full hr)
  have HT : Hid (∀ w', Now w q p g rb tv S lim (T.drop 1) r R L w' → Calls Try.prog 30 #[.pointer (some ⟨p, 0, none⟩), .int .i64 (n : Int)] w' fun e w2 => e = .returned (.tuple #[.int .i64 0, .int .i64 4]) ∧ Now w q p g rb tv S lim (T.drop 1) r R L w2) :=
    Lib.hid fun w' s => by have := s.take (n : Int); rwa [e1, e2, e3] at this
  have ST := Lib.hid (Now.start h)
  clear h ht hT hm hl e1 e2 e3 hlow hlen
  go_enter Try.func16, Try.ntmps16
  go_wp2_with fail
  go_region_held3 (fun w' => w'.cell? ⟨q, 2, none⟩ = some (.int .i64 (lim : Int))) (first | go_keep | exact d2)
    (first
      | (go_at_call 28; (first | (with_reducible refine (HN.out _ ST.out.drew).mono ?_) | (with_reducible refine (HN.out _ ST.out).mono ?_)); rintro e w5 ⟨rfl, hst⟩; have d2 := hst.c2; have ST := Lib.hid hst; clear hst)
      | (go_at_call 20; (first | (with_reducible refine (HG.out _ ST.out.drew).mono ?_) | (with_reducible refine (HG.out _ ST.out).mono ?_)); rintro e w5 ⟨rfl, hst⟩; have d2 := hst.c2; have ST := Lib.hid hst; clear hst))
  have d0 := ST.out.c0
  go_wp2_with fail
  refine (HT.out _ ST.out).mono ?_; rintro e w2 ⟨rfl, hs⟩
  have ST2 := Lib.hid hs
  clear hs
  go_wp2_with fail
  refine (HF.out _ ST2.out).mono ?_; rintro e w3 ⟨rfl, hs⟩
  have ST3 := Lib.hid hs
  clear hs
  go_wp2
  go_ret2
  exact ⟨rfl, ST3.out⟩
theorem reserve_yes (h : Raw w q p g rb tv S lim T r R L) (n : Nat) (h1 : 1 ≤ n) (h2 : n ≤ S) (hS : S ≤ 64) (hlim : lim ≤ S) (hT : T.length ≤ 1000) (ht : T.headD false = false) (m : Nat) (hm : MarkMath.left L + m = S) (hl : m + n ≤ lim)
    (hlen : L.length = S) (a : Nat) (ha : a + n ≤ S) (hlow : MarkMath.low L n = some a) : Calls Try.prog 16 #[.pointer (some ⟨q, 0, none⟩), .int .i64 (n : Int)] w fun e w' =>
    e = .returned (.tuple #[.int .i64 (a : Int), .int .i64 0]) ∧ Now w q p g rb tv S lim (T.drop 1) r (R.set a n) (MarkMath.setAt L a n true) w' := by
  have c1 := h.c1
  have d0 := h.c0
  have d2 := h.c2
  have t0 : decide ((n : Int) < 1) = false := decide_eq_false (by omega)
  have t1 : decide (S < n) = false := decide_eq_false (by omega)
  have t2 : decide ((lim : Int) - (m : Int) < (n : Int)) = false := decide_eq_false (by omega)
  have hm2 : m ≤ 64 := by omega
  have hwr : IntKind.i64.wrap ((lim : Int) - (m : Int)) = (lim : Int) - (m : Int) := IntWalk.i64_in _ ⟨by omega, by omega⟩
  have has : a < S := by omega
  obtain ⟨e1, e2, e3⟩ := take_yes (L := L) h1 (by omega) hlow
  have HN := Lib.hid (fun w' (s : Now w q p g rb tv S lim T r R L w') => (s.next hT).mono (R' := fun e w2 => e = .returned (.bool false) ∧ Now w q p g rb tv S lim (T.drop 1) r R L w2) fun e w2 k => ⟨by rw [k.1, ht], k.2⟩)
  have HG := Lib.hid (fun w' (s : Now w q p g rb tv S lim (T.drop 1) r R L w') => s.given m hm hS)
  have HT : Hid (∀ w', Now w q p g rb tv S lim (T.drop 1) r R L w' → Calls Try.prog 30 #[.pointer (some ⟨p, 0, none⟩), .int .i64 (n : Int)] w' fun e w2 => e = .returned (.tuple #[.int .i64 (a : Int), .int .i64 0]) ∧ Now w q p g rb tv S lim (T.drop 1) r R (MarkMath.setAt L a n true) w2) :=
    Lib.hid fun w' s => by have := s.take (n : Int); rwa [e1, e2, e3] at this
  have ST := Lib.hid (Now.start h)
  clear h ht hT hm hl e1 e2 e3 hlow hlen ha
  go_enter Try.func16, Try.ntmps16
  go_wp2_with fail
  go_region_held3 (fun w' => w'.cell? ⟨q, 2, none⟩ = some (.int .i64 (lim : Int))) (first | go_keep | exact d2)
    (first
      | (go_at_call 28; (first | (with_reducible refine (HN.out _ ST.out.drew).mono ?_) | (with_reducible refine (HN.out _ ST.out).mono ?_)); rintro e w5 ⟨rfl, hst⟩; have d2 := hst.c2; have ST := Lib.hid hst; clear hst)
      | (go_at_call 20; (first | (with_reducible refine (HG.out _ ST.out.drew).mono ?_) | (with_reducible refine (HG.out _ ST.out).mono ?_)); rintro e w5 ⟨rfl, hst⟩; have d2 := hst.c2; have ST := Lib.hid hst; clear hst))
  have d0 := ST.out.c0
  go_wp2_with fail
  refine (HT.out _ ST.out).mono ?_; rintro e w2 ⟨rfl, hs⟩
  have f1 := hs.c1
  have hcell := hs.cr a has
  have hfr := hs.fr a
  obtain ⟨old, hold⟩ : ∃ old, R.getD a 0 = old := ⟨_, rfl⟩
  rw [hold] at hcell
  have ST2 := Lib.hid hs
  clear hs hold
  go_wp2
  go_ret2
  exact ⟨rfl, ST2.out.store a n _ rfl⟩
end
end Go.Proofs.Ytnkahcfkbpbhiaa
