/- A law's own stack, with the moves on it: contracts of all that laws call. -/
import Derived.Test.YtgaecgijmnkdgaaStackD
import Derived.Test.YtgaecgijmnkdgaaReads
namespace Go.Proofs.Ytgaecgijmnkdgaa
open Go.RowKit StackMath
set_option linter.unusedVariables false
set_option maxRecDepth 100000

/-- Since w: a stack at s, moves on it. -/
structure FS (w : World) (s : Nat) (S : SS) (ms : List (Nat × MV)) (w' : World) : Prop where
  sk : SK w' s 0 S
  g : GoodS S
  mo : ∀ (j : Nat) x, ms[j]? = some x → MK w' x.1 s 0 x.2 ∧ GoodM S x.2 ∧ x.1 ≠ s ∧ w.heap.size ≤ x.1
  nd : ∀ (i j : Nat) x y, ms[i]? = some x → ms[j]? = some y → x.1 = y.1 → i = j
  fs : w.heap.size ≤ s
  below : Below w.heap.size w w'
section
variable {w w' w2 : World} {s : Nat} {S : SS} {ms : List (Nat × MV)}
theorem FS.upd {T : Nat → Prop} (h : FS w s S ms w') (u : Upd T w' w2) (hT : ∀ k, T k → w.heap.size ≤ k ∧ k ≠ s ∧ ∀ x ∈ ms, x.1 ≠ k) : FS w s S ms w2 :=
  ⟨h.sk.upd u (fun k => (hT s k).2.1 rfl), h.g, fun j x hx => by
    obtain ⟨h1, h2, h3, h4⟩ := h.mo j x hx
    exact ⟨h1.upd u (fun k => (hT _ k).2.2 x (List.mem_of_getElem? hx) rfl), h2, h3, h4⟩, h.nd, h.fs, h.below.trans (u.below (fun k hk => (hT k hk).1) h.below.size)⟩
theorem FS.grew (h : FS w s S ms w') (hb : Below w'.heap.size w' w2) : FS w s S ms w2 := h.upd (updFalse_of hb) fun k x => x.elim
theorem FS.alloc (h : FS w s S ms w') (o : Obj) : FS w s S ms (w'.alloc o) := h.grew ((Below.refl _ _).alloc (Nat.le_refl _) o)
theorem FS.drewN (h : FS w s S ms w') (k : Nat) : FS w s S ms (w'.drewN k) := ⟨h.sk, h.g, h.mo, h.nd, h.fs, below_drewN h.below k⟩
theorem FS.drew (h : FS w s S ms w') : FS w s S ms w'.drew := h.drewN 1
theorem FS.lt (h : FS w s S ms w') : s < w'.heap.size := h.sk.lt
theorem FS.mlt (h : FS w s S ms w') {x : Nat × MV} (hx : x ∈ ms) : x.1 < w'.heap.size := by
  obtain ⟨j, hj⟩ := List.getElem?_of_mem hx
  exact (h.mo j x hj).1.lt
theorem FS.forget (h : FS w s S ms w') : FS w s S [] w' := ⟨h.sk, h.g, fun j x hx => by simp at hx, fun i j x y hx => by simp at hx, h.fs, h.below⟩
theorem fs_new {w1 : World} (hb : Below w.heap.size w w1) : ∃ W, w1.alloc (.cells zS67 29) = W ∧ FS w w1.heap.size s0 [] W ∧ Below w1.heap.size w1 W ∧ W.heap.size = w1.heap.size + 1 := by
  obtain ⟨W, h1, h2, h3, h4⟩ := sk_new w1
  exact ⟨W, h1, ⟨h2, GoodS.zero, fun j x hx => by simp at hx, fun i j x y hx => by simp at hx, hb.size, below_then hb hb.size h3⟩, h3, h4⟩
theorem fs_step (h : FS w s S ms w') (hm : ManyB S) {i m : Nat} {M : MV} (hi : ms[i]? = some (m, M)) :
    Calls Try.prog 13 #[.pointer (some ⟨m, 0, none⟩)] w' fun e w2 => e = .returned (.bool (!M.over)) ∧ FS w s (stepE S M).1 (ms.set i (m, (stepE S M).2)) w2 ∧ StW m s 0 w' w2 := by
  obtain ⟨k1, k2, k3, k4⟩ := h.mo i _ hi
  simp only at k1 k2 k3 k4
  refine (step_any w' h.sk h.g k2 hm k1 k3).mono ?_
  rintro e w2 ⟨e1, e2, e3, e4⟩
  obtain ⟨hlt, hget⟩ := List.getElem?_eq_some_iff.1 hi
  refine ⟨e1, ⟨e2, h.g.step k2, fun j y hy => ?_, fun j j2 x y hx hy e => ?_, h.fs, ?_⟩, e4⟩
  · rw [List.getElem?_set] at hy
    by_cases hij : i = j
    · rw [if_pos hij, if_pos hlt] at hy
      injection hy with hy
      subst hy
      exact ⟨e3, k2.step h.g, k3, k4⟩
    · rw [if_neg hij] at hy
      obtain ⟨q1, q2, q3, q4⟩ := h.mo j y hy
      have hym : y.1 ≠ m := fun e => hij (h.nd i j _ _ hi hy e.symm)
      exact ⟨q1.upd e4.upd (by rintro (k | ⟨c, k⟩); exact hym k; exact q3 k.1), q2.other M, q3, q4⟩
  · have same : ∀ (j : Nat) z, (ms.set i (m, (stepE S M).2))[j]? = some z → ∃ z', ms[j]? = some z' ∧ z'.1 = z.1 := fun j z hz => by
      rw [List.getElem?_set] at hz
      by_cases hij : i = j
      · rw [if_pos hij, if_pos hlt] at hz
        injection hz with hz
        subst hz
        exact ⟨(m, M), hij ▸ hi, rfl⟩
      · rw [if_neg hij] at hz; exact ⟨z, hz, rfl⟩
    obtain ⟨x', hx', ex⟩ := same j x hx
    obtain ⟨y', hy', ey⟩ := same j2 y hy
    exact h.nd j j2 x' y' hx' hy' (by rw [ex, ey]; exact e)
  · exact h.below.trans (e4.below (fun b hb => by rw [hb]; exact k4) (fun b c hc => by rw [hc.1]; exact h.fs) h.below.size)
theorem fs_look2 (h : FS w s S ms w') (hm : ManyB S) :
    Calls Try.prog 22 #[.pointer (some ⟨s, 0, none⟩)] w' fun e w2 => e = .returned (.tuple #[.int .i64 (topI S.L), .int .u64 (S.t : Int)]) ∧ FS w s ⟨S.L, S.B, S.t, S.n + 1⟩ ms w2 := by
  refine (look_any w' h.sk h.g hm).mono ?_
  rintro e w2 ⟨h1, h2, h3⟩
  refine ⟨h1, ⟨h2, ⟨h.g.nd, h.g.lt, h.g.ch, h.g.bb, Nat.le_succ_of_le h.g.tn⟩, fun j x hx => ?_, h.nd, h.fs, h.below.trans (h3.below (fun _ h => h.elim) (fun b c hc => by rw [hc.1]; exact h.fs) h.below.size)⟩⟩
  obtain ⟨k1, k2, k3, k4⟩ := h.mo j x hx
  exact ⟨k1.upd h3.upd (by rintro (k | ⟨c, k⟩); exact k; exact k3 k.1), ⟨k2.pl, k2.tg, k2.lo, k2.po, k2.att⟩, k3, k4⟩
theorem FS.more (h : FS w s S ms w') {m : Nat} {M : MV} (k : MK w' m s 0 M) (g : GoodM S M) (hw : w.heap.size ≤ m) (hs : m ≠ s) (hn : ∀ x ∈ ms, x.1 ≠ m) : FS w s S (ms ++ [(m, M)]) w' := by
  refine ⟨h.sk, h.g, fun j x hx => ?_, fun i j x y hx hy e => ?_, h.fs, h.below⟩
  · rw [List.getElem?_append] at hx
    split at hx
    · exact h.mo j x hx
    · rw [List.getElem?_singleton] at hx
      split at hx
      · injection hx with hx; subst hx; exact ⟨k, g, hs, hw⟩
      · cases hx
  · rw [List.getElem?_append] at hx hy
    split at hx
    · split at hy
      · exact h.nd i j x y hx hy e
      · rw [List.getElem?_singleton] at hy
        split at hy
        · injection hy with hy; subst hy; exact absurd e (hn x (List.mem_of_getElem? hx))
        · cases hy
    · rw [List.getElem?_singleton] at hx
      split at hx
      · injection hx with hx
        subst hx
        split at hy
        · exact absurd e.symm (hn y (List.mem_of_getElem? hy))
        · rw [List.getElem?_singleton] at hy
          split at hy
          · omega
          · cases hy
      · cases hx
theorem fs_push (h : FS w s S ms w') {p : Nat} (hp : p < 64) :
    Calls Try.prog 11 #[.pointer (some ⟨s, 0, none⟩), .int .i64 (p : Int)] w' fun e w2 => ∃ m, e = .returned (.tuple #[.pointer (some ⟨m, 0, none⟩), .int .i64 0]) ∧ FS w s S (ms ++ [(m, mPush p)]) w2 ∧ w'.heap.size ≤ m ∧ Below w'.heap.size w' w2 := by
  refine (newPush w' hp).mono ?_
  rintro e w2 ⟨e1, e2, e3, e4⟩
  have h2 := h.grew e3
  have := h.lt
  exact ⟨_, e1, h2.more e2 (goodM_push S hp) h.below.size (by omega) (fun x hx => by have := h.mlt hx; omega), Nat.le_refl _, e3⟩
theorem fs_pop (h : FS w s S ms w') :
    Calls Try.prog 12 #[.pointer (some ⟨s, 0, none⟩)] w' fun e w2 => ∃ m, e = .returned (.tuple #[.pointer (some ⟨m, 0, none⟩), .int .i64 0]) ∧ FS w s S (ms ++ [(m, mPop)]) w2 ∧ w'.heap.size ≤ m ∧ Below w'.heap.size w' w2 := by
  refine (newPop w').mono ?_
  rintro e w2 ⟨e1, e2, e3, e4⟩
  have h2 := h.grew e3
  have := h.lt
  exact ⟨_, e1, h2.more e2 (goodM_pop S) h.below.size (by omega) (fun x hx => by have := h.mlt hx; omega), Nat.le_refl _, e3⟩
theorem fs_done (h : FS w s S ms w') {i m : Nat} {M : MV} (hi : ms[i]? = some (m, M)) : Calls Try.prog 15 #[.pointer (some ⟨m, 0, none⟩)] w' fun e w2 => e = .returned (.bool M.over) ∧ w2 = w' := done_any w' (h.mo i _ hi).1
theorem fs_place (h : FS w s S ms w') {i m : Nat} {M : MV} (hi : ms[i]? = some (m, M)) : Calls Try.prog 16 #[.pointer (some ⟨m, 0, none⟩)] w' fun e w2 => e = .returned (.int .i64 (placeE M)) ∧ w2 = w' := place_any w' (h.mo i _ hi).1
theorem fs_all (h : FS w s S ms w') (hm : ManyB S) : Calls Try.prog 18 #[.pointer (some ⟨s, 0, none⟩)] w' fun e w2 => ∃ a c, e = .returned (.slice a S.L.length c) ∧ Seq Elem.ints w2 (.slice a S.L.length c) (toI S.L) ∧ FS w s S ms w2 ∧ (∀ k, In (.slice a S.L.length c) k → w'.heap.size ≤ k) ∧ Below w'.heap.size w' w2 := by
  refine (all_any w' h.sk h.g hm).mono ?_
  rintro e w2 ⟨v, e1, e2, e3, e4⟩
  obtain ⟨a, c, rfl, h1, h2⟩ := e2.slice'
  rw [toI_len] at e1 e2 e3
  exact ⟨a, c, e1, e2.seq, h.grew e4, e3, e4⟩
theorem fs_asked (h : FS w s S ms w') (hm : ManyB S) (t : TypeId) (g : Nat) (hg : g = w'.heap.size) : Calls Try.prog 19 #[.slice (some ⟨g, 0, none⟩) 1 1] (w'.alloc (.cells #[.pointer (some ⟨s, 0, none⟩)] t)) fun e w2 => e = .returned (.int .i64 (S.n : Int)) ∧ FS w s S ms w2 ∧ Below w'.heap.size w' w2 := by
  have hq := ptr_oneAt w' t (some ⟨s, 0, none⟩) g hg
  have h2 := h.alloc (.cells #[.pointer (some ⟨s, 0, none⟩)] t)
  refine (cell_asked _ [some ⟨s, 0, none⟩] (fun _ => (S.n : Int)) hq (by decide) (by decide) (by decide) (fun p hp => ?_)).mono ?_
  · have : p = ⟨s, 0, none⟩ := by simpa using hp
    subst this
    exact ⟨hm.ask, s, 0, topW S.L, S.t, rfl, h2.sk.cc⟩
  · rintro e w3 ⟨e1, e2⟩
    refine ⟨by rw [e1]; simp [sumI], h2.grew e2, ?_⟩
    exact below_then ((Below.refl _ w').alloc (Nat.le_refl _) _) (by rw [World.size_alloc]; omega) e2
theorem fs_cell (w' : World) : Calls Try.prog 20 #[.pointer (some ⟨s, 0, none⟩)] w' fun e w2 => e = .returned (.pointer (some ⟨s, 0, none⟩)) ∧ w2 = w' := cellOf_any w' s 0
/-! ### Alone -/
/-- A move that steps alone, ahead of its j-th step. -/
abbrev AL (w : World) (s : Nat) (S : SS) (m : Nat) (M : MV) (j : Nat) (w' : World) : Prop := FS w s (aloneE S M j).1 [(m, (aloneE S M j).2)] w'
theorem al_step {m : Nat} {M : MV} {j : Nat} (h : AL w s S m M j w') (hm : S.n + j ≤ 999999999) (hn : (aloneE S M j).1.n ≤ S.n + j) : Calls Try.prog 13 #[.pointer (some ⟨m, 0, none⟩)] w' fun e w2 => e = .returned (.bool (!(aloneE S M j).2.over)) ∧ AL w s S m M (j + 1) w2 ∧ StW m s 0 w' w2 :=
  fs_step h (show (aloneE S M j).1.n ≤ 999999999 by omega) (i := 0) rfl
theorem alone_n (S : SS) (M : MV) : ∀ j, (aloneE S M j).1.n ≤ S.n + j
  | 0 => Nat.le_refl _
  | j + 1 => by have := alone_n S M j; have h := (step_n (aloneE S M j).1 (aloneE S M j).2).2; show (stepE _ _).1.n ≤ _; omega
theorem al_stepB {m : Nat} {M : MV} {j : Nat} {b : Bool} (h : AL w s S m M j w') (hm : S.n ≤ 1000000) (hj : j ≤ 1000) (hb : (!(aloneE S M j).2.over) = b) : Calls Try.prog 13 #[.pointer (some ⟨m, 0, none⟩)] w' fun e w2 => e = .returned (.bool b) ∧ AL w s S m M (j + 1) w2 ∧ StW m s 0 w' w2 := by
  subst hb
  exact al_step h (by omega) (alone_n S M j)
theorem fs_stepB (h : FS w s S ms w') (hm : ManyB S) {i m : Nat} {M : MV} {b : Bool} {S2 : SS} {ms2 : List (Nat × MV)} (hi : ms[i]? = some (m, M)) (hb : (!M.over) = b) (hS : (stepE S M).1 = S2) (h2 : ms.set i (m, (stepE S M).2) = ms2) :
    Calls Try.prog 13 #[.pointer (some ⟨m, 0, none⟩)] w' fun e w2 => e = .returned (.bool b) ∧ FS w s S2 ms2 w2 ∧ StW m s 0 w' w2 := by
  subst hb hS h2
  exact fs_step h hm hi
theorem FS.solo (h : FS w s S ms w') {m : Nat} {M : MV} (hx : (m, M) ∈ ms) : AL w s S m M 0 w' := by
  obtain ⟨j, hj⟩ := List.getElem?_of_mem hx
  exact ⟨h.sk, h.g, fun i x hi => by
    cases i with
    | zero => injection hi with hi; subst hi; exact h.mo j _ hj
    | succ i => simp at hi, fun i k x y hi hk _ => by
    cases i with
    | zero =>
      cases k with
      | zero => rfl
      | succ k => simp at hk
    | succ i => simp at hi, h.fs, h.below⟩
/-! ### A move that steps alone, in a loop, beside others -/
/-- It is over behind n steps, not ahead. -/
structure Ends (S : SS) (M : MV) (n : Nat) : Prop where
  no : ∀ j, j < n → (aloneE S M j).2.over = false
  yes : (aloneE S M n).2.over = true
theorem push_ends (S : SS) (p : Nat) : Ends S (mPush p) 2 := ⟨fun j hj => by
  rcases (by omega : j = 0 ∨ j = 1) with rfl | rfl
  · exact (push_two S p).1
  · exact (push_two S p).2.1, (push_two S p).2.2.2.1⟩
theorem pop_ends {S : SS} {a : Nat} {t : List Nat} (h : S.L = a :: t) : Ends S mPop 2 := ⟨fun j hj => by
  rcases (by omega : j = 0 ∨ j = 1) with rfl | rfl
  · exact (pop_two h).1
  · exact (pop_two h).2.1, (pop_two h).2.2.2.1⟩
theorem pop_ends0 {S : SS} (h : S.L = []) : Ends S mPop 1 := ⟨fun j hj => by
  obtain rfl : j = 0 := by omega
  exact (pop_none h).1, (pop_none h).2.2.1⟩
theorem Ends.stay {S : SS} {M : MV} {n : Nat} (E : Ends S M n) : aloneE S M (n + 1) = aloneE S M n := by
  show stepE _ _ = _
  unfold stepE
  rw [if_pos E.yes]
def SoR (w : World) (s : Nat) (S : SS) (ms : List (Nat × MV)) (m : Nat) (M : MV) (w5 : World) (n g : Nat) (wr : World) : Prop :=
  ∃ j : Nat, j + g = n ∧ FS w s (aloneE S M j).1 (ms ++ [(m, (aloneE S M j).2)]) wr ∧ StW m s 0 w5 wr
theorem StW.refl (m s o : Nat) (w : World) : StW m s o w w := Wrt.refl _ _ _
theorem so_zero {m : Nat} {M : MV} (h : FS w s S (ms ++ [(m, M)]) w') (n : Nat) : SoR w s S ms m M w' n n w' := ⟨0, by omega, h, StW.refl _ _ _ _⟩
theorem StW.trans {m s o : Nat} {a b c : World} (h : StW m s o a b) (k : StW m s o b c) : StW m s o a c := Wrt.trans h k
theorem so_step {m n j : Nat} {M : MV} {w5 : World} {b : Bool} (hm : S.n ≤ 1000000) (hj : j ≤ 1000) (h : FS w s (aloneE S M j).1 (ms ++ [(m, (aloneE S M j).2)]) w') (hw : StW m s 0 w5 w') (hb : (!(aloneE S M j).2.over) = b) :
    Calls Try.prog 13 #[.pointer (some ⟨m, 0, none⟩)] w' fun e w2 => e = .returned (.bool b) ∧ FS w s (aloneE S M (j + 1)).1 (ms ++ [(m, (aloneE S M (j + 1)).2)]) w2 ∧ StW m s 0 w5 w2 := by
  have hn := alone_n S M j
  refine (fs_stepB h (show _ ≤ 999999999 by omega) (i := ms.length) (by rw [List.getElem?_append_right (Nat.le_refl _), Nat.sub_self]; rfl) hb rfl rfl).mono ?_
  rintro e w2 ⟨h1, h2, h3⟩
  rw [List.set_append_right _ _ (Nat.le_refl _), Nat.sub_self] at h2
  exact ⟨h1, h2, hw.trans h3⟩
theorem so_next {m n j : Nat} {M : MV} {w5 : World} (E : Ends S M n) (hm : S.n ≤ 1000000) (hn : n ≤ 1000) (h : FS w s (aloneE S M j).1 (ms ++ [(m, (aloneE S M j).2)]) w') (hw : StW m s 0 w5 w') (hj : j < n) :
    Calls Try.prog 13 #[.pointer (some ⟨m, 0, none⟩)] w' fun e w2 => e = .returned (.bool true) ∧ SoR w s S ms m M w5 n (n - 1 - j) w2 :=
  (so_step (n := n) hm (by omega) h hw (b := true) (by rw [E.no j hj]; rfl)).mono fun e w2 ⟨h1, h2, h3⟩ => ⟨h1, j + 1, by omega, h2, h3⟩
theorem so_stop {m n j : Nat} {M : MV} {w5 : World} (E : Ends S M n) (hm : S.n ≤ 1000000) (hn : n ≤ 1000) (h : FS w s (aloneE S M j).1 (ms ++ [(m, (aloneE S M j).2)]) w') (hw : StW m s 0 w5 w') (hj : j = n) :
    Calls Try.prog 13 #[.pointer (some ⟨m, 0, none⟩)] w' fun e w2 => e = .returned (.bool false) ∧ FS w s (aloneE S M n).1 (ms ++ [(m, (aloneE S M n).2)]) w2 ∧ StW m s 0 w5 w2 := by
  subst hj
  refine (so_step (n := j) hm hn h hw (b := false) (by rw [E.yes]; rfl)).mono ?_
  rintro e w2 ⟨h1, h2, h3⟩
  rw [E.stay] at h2
  exact ⟨h1, h2, h3⟩
theorem FS.front {x : Nat × MV} (h : FS w s S (ms ++ [x]) w') : FS w s S ms w' := by
  have at_ : ∀ (j : Nat) y, ms[j]? = some y → (ms ++ [x])[j]? = some y := fun j y hy => by
    rw [List.getElem?_append_left (List.getElem?_eq_some_iff.1 hy).1]; exact hy
  exact ⟨h.sk, h.g, fun j y hy => h.mo j y (at_ j y hy), fun i j y z hy hz e => h.nd i j y z (at_ i y hy) (at_ j z hz) e, h.fs, h.below⟩
theorem pushS_n (S : SS) (p : Nat) : S.n ≤ (pushS S p).n ∧ (pushS S p).n ≤ S.n + 2 := by unfold pushS; split <;> simp
theorem popS_n (S : SS) : S.n ≤ (popS S).n ∧ (popS S).n ≤ S.n + 2 := by unfold popS; split <;> simp
end
end Go.Proofs.Ytgaecgijmnkdgaa
