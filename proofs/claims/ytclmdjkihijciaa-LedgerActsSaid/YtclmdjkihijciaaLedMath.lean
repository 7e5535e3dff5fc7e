/- What a ledger says, in plain lists: blocks apart and rising, each held or not. -/
import Derived.Test.YtclmdjkihijciaaPop
namespace Go.Proofs.Ytclmdjkihijciaa
set_option linter.unusedVariables false
set_option linter.unusedSimpArgs false

/-- A block, and whether it is held. -/
structure En where
  a : Nat
  n : Nat
  g : Nat
  h : Bool
namespace En
def t (e : En) : Nat := max e.n 1
def z (e : En) : Nat := e.a + e.t
def b (e : En) : Nat × Nat × Nat := (e.a, e.n, e.g)
theorem lt_z (e : En) : e.a < e.z := by unfold z t; omega
end En
namespace LedMath
def mayE (a n g : Nat) : Bool := decide (a + max n 1 ≤ 1048576) && CalcMath.isP2 g && decide (g ≤ 1024) && decide (a % g = 0)
structure GoodL (L : List En) : Prop where
  apart : L.Pairwise fun x y => x.z ≤ y.a
  may : ∀ e ∈ L, mayE e.a e.n e.g = true
theorem may_end {a n g : Nat} (h : mayE a n g = true) : a + max n 1 ≤ 1048576 := by
  simp only [mayE, Bool.and_eq_true, decide_eq_true_eq] at h; exact h.1.1.1
theorem may_p2 {a n g : Nat} (h : mayE a n g = true) : CalcMath.isP2 g = true ∧ g ≤ 1024 ∧ a % g = 0 := by
  simp only [mayE, Bool.and_eq_true, decide_eq_true_eq] at h; exact ⟨h.1.1.2, h.1.2, h.2⟩
theorem may_pos {a n g : Nat} (h : mayE a n g = true) : g ≠ 0 := by
  rintro rfl
  have := (may_p2 h).1
  revert this
  decide
theorem GoodL.nil : GoodL [] := ⟨List.Pairwise.nil, fun e h => absurd h List.not_mem_nil⟩
theorem GoodL.rise {L : List En} (h : GoodL L) : L.Pairwise fun x y => x.a < y.a :=
  h.apart.imp fun {x y} hxy => Nat.lt_of_lt_of_le x.lt_z hxy
theorem GoodL.filter {L : List En} (h : GoodL L) (p : En → Bool) : GoodL (L.filter p) :=
  ⟨h.apart.filter p, fun e he => h.may e (List.mem_filter.1 he).1⟩
theorem GoodL.lt {L : List En} (h : GoodL L) {e : En} (he : e ∈ L) : e.z ≤ 1048576 := may_end (h.may e he)
theorem GoodL.lt' {L : List En} (h : GoodL L) {e : En} (he : e ∈ L) : e.a < 1048576 := by have := h.lt he; have := e.lt_z; omega
theorem pair_mem {α : Type} {R : α → α → Prop} : ∀ {L : List α}, L.Pairwise R → ∀ {x y : α}, x ∈ L → y ∈ L → x = y ∨ R x y ∨ R y x
  | [], _, x, _, hx, _ => absurd hx List.not_mem_nil
  | c :: l, h, x, y, hx, hy => by
    rw [List.pairwise_cons] at h
    rcases List.mem_cons.1 hx with e | hx
    · rcases List.mem_cons.1 hy with e' | hy
      · exact .inl (e.trans e'.symm)
      · exact .inr (.inl (by rw [e]; exact h.1 y hy))
    · rcases List.mem_cons.1 hy with e' | hy
      · exact .inr (.inr (by rw [e']; exact h.1 x hx))
      · exact pair_mem h.2 hx hy
theorem GoodL.eq {L : List En} (h : GoodL L) {x y : En} (hx : x ∈ L) (hy : y ∈ L) (e : x.a = y.a) : x = y := by
  rcases pair_mem h.rise hx hy with r | r | r
  · exact r
  · omega
  · omega
theorem GoodL.order {L : List En} (h : GoodL L) {x y : En} (hx : x ∈ L) (hy : y ∈ L) (e : x.a < y.a) : x.z ≤ y.a := by
  rcases pair_mem h.apart hx hy with r | r | r
  · subst r; omega
  · exact r
  · have := y.lt_z; omega

/-! ### The rows: by the slice that each begins in -/
def rowOf (L : List En) (s : Nat) : List En := L.filter fun e => decide (e.a / 1024 = s)
theorem mem_rowOf {L : List En} {s : Nat} {e : En} : e ∈ rowOf L s ↔ e ∈ L ∧ e.a / 1024 = s := by
  simp [rowOf]
theorem GoodL.row {L : List En} (h : GoodL L) (s : Nat) : GoodL (rowOf L s) := h.filter _
theorem rows_below : ∀ {L : List En}, L.Pairwise (fun x y : En => x.a < y.a) → ∀ k, (List.range k).flatMap (rowOf L) = L.filter fun e => decide (e.a / 1024 < k)
  | L, h, 0 => by
    simp only [List.range_zero, List.flatMap_nil]
    symm; rw [List.filter_eq_nil_iff]; intro e _; simp
  | L, h, k + 1 => by
    rw [List.range_succ, List.flatMap_append, rows_below h k]
    simp only [List.flatMap_cons, List.flatMap_nil, List.append_nil, rowOf]
    induction L with
    | nil => rfl
    | cons x l ih =>
      rw [List.pairwise_cons] at h
      have i := ih h.2
      by_cases h1 : x.a / 1024 < k
      · have h2 : ¬ x.a / 1024 = k := by omega
        have h3 : x.a / 1024 < k + 1 := by omega
        simp only [List.filter_cons, h1, h2, h3, decide_true, decide_false, if_true, Bool.false_eq_true, if_false, List.cons_append, i]
      · have e0 : ∀ y ∈ l, ¬ y.a / 1024 < k := fun y hy => by have := h.1 y hy; omega
        have e1 : (l.filter fun e => decide (e.a / 1024 < k)) = [] := List.filter_eq_nil_iff.2 fun y hy => by simpa using e0 y hy
        rw [e1, List.nil_append] at i
        by_cases h2 : x.a / 1024 = k
        · have h3 : x.a / 1024 < k + 1 := by omega
          simp only [List.filter_cons, h1, h2, h3, decide_true, decide_false, if_true, Bool.false_eq_true, if_false, e1, List.nil_append, i]
          simp only [Nat.lt_irrefl, decide_false, Bool.false_eq_true, if_false, List.nil_append, Nat.lt_succ_self, decide_true, if_true]
        · have h3 : ¬ x.a / 1024 < k + 1 := by omega
          simp only [List.filter_cons, h1, h2, h3, decide_true, decide_false, if_true, Bool.false_eq_true, if_false, e1, List.nil_append, i]
theorem GoodL.rows {L : List En} (h : GoodL L) : (List.range 1024).flatMap (rowOf L) = L := by
  rw [rows_below h.rise, List.filter_eq_self]
  intro e he
  have := h.lt' he
  exact decide_eq_true (by omega)
theorem row_lt {L : List En} (h : GoodL L) {s : Nat} {e : En} (he : e ∈ rowOf L s) : s < 1024 := by
  have h1 := mem_rowOf.1 he
  have := h.lt' h1.1
  omega
/-- A rising list has no more elements than there is room for. -/
theorem rise_len : ∀ {l : List En} {lo hi : Nat}, l.Pairwise (fun x y : En => x.a < y.a) → (∀ e ∈ l, lo ≤ e.a ∧ e.a < hi) → lo ≤ hi → l.length + lo ≤ hi
  | [], lo, hi, _, _, h => by simpa using h
  | x :: l, lo, hi, h, hb, hl => by
    rw [List.pairwise_cons] at h
    have h0 := hb x List.mem_cons_self
    have := rise_len (l := l) (lo := x.a + 1) (hi := hi) h.2 (fun e he => ⟨h.1 e he, (hb e (List.mem_cons_of_mem _ he)).2⟩) (by omega)
    rw [List.length_cons]; omega
theorem GoodL.row_len {L : List En} (h : GoodL L) (s : Nat) : (rowOf L s).length ≤ 1024 := by
  have := rise_len (l := rowOf L s) (lo := s * 1024) (hi := s * 1024 + 1024) (h.row s).rise (fun e he => by have := (mem_rowOf.1 he).2; omega) (by omega)
  omega
theorem GoodL.len {L : List En} (h : GoodL L) : L.length ≤ 1048576 := by
  have := rise_len (l := L) (lo := 0) (hi := 1048576) h.rise (fun e he => ⟨Nat.zero_le _, h.lt' he⟩) (by omega)
  omega
theorem GoodL.row_count {L : List En} (h : GoodL L) : ∀ k, ((List.range k).flatMap (rowOf L)).length ≤ 1048576 := fun k => by
  rw [rows_below h.rise]
  exact Nat.le_trans (List.length_filter_le _ _) h.len

/-! ### How many begin ahead of an address -/
def aheadL (l : List En) (x : Nat) : Nat := (l.filter fun e => decide (e.a < x)).length
def beginsL (l : List En) (x : Nat) : Bool := l.any fun e => decide (e.a = x)
theorem split_rise : ∀ {l : List En}, l.Pairwise (fun x y : En => x.a < y.a) → ∀ x, l.filter (fun e => decide (e.a < x)) = l.take (aheadL l x) ∧ l.filter (fun e => decide (x ≤ e.a)) = l.drop (aheadL l x)
  | [], _, x => by simp [aheadL]
  | y :: l, h, x => by
    rw [List.pairwise_cons] at h
    obtain ⟨i1, i2⟩ := split_rise h.2 x
    by_cases hy : y.a < x
    · have hy' : ¬ x ≤ y.a := by omega
      have e : aheadL (y :: l) x = aheadL l x + 1 := by simp [aheadL, List.filter_cons, hy]
      rw [e, List.take_succ_cons, List.drop_succ_cons, ← i1, ← i2]
      simp [List.filter_cons, hy, hy']
    · have hy' : x ≤ y.a := by omega
      have e1 : (l.filter fun e => decide (e.a < x)) = [] := List.filter_eq_nil_iff.2 fun z hz => by have := h.1 z hz; simp; omega
      have e2 : (l.filter fun e => decide (x ≤ e.a)) = l := List.filter_eq_self.2 fun z hz => by have := h.1 z hz; simp; omega
      have e : aheadL (y :: l) x = 0 := by simp [aheadL, List.filter_cons, hy, e1]
      rw [e]
      simp [List.filter_cons, hy, hy', e1, e2]
theorem ahead_le (l : List En) (x : Nat) : aheadL l x ≤ l.length := List.length_filter_le _ _
/-- Elements ahead of the count lie ahead of the address, those from it on don't. -/
theorem ahead_lt {l : List En} (h : l.Pairwise (fun x y : En => x.a < y.a)) {x i : Nat} {e : En} (he : l[i]? = some e) : e.a < x ↔ i < aheadL l x := by
  obtain ⟨h1, h2⟩ := split_rise h x
  have hi := (List.getElem?_eq_some_iff.1 he).1
  constructor
  · intro hx
    refine Nat.lt_of_not_le fun hle => ?_
    have hm : e ∈ l.drop (aheadL l x) := by
      refine List.mem_of_getElem? (i := i - aheadL l x) ?_
      rw [List.getElem?_drop, show aheadL l x + (i - aheadL l x) = i by omega]; exact he
    rw [← h2] at hm
    have := (List.mem_filter.1 hm).2
    simp at this; omega
  · intro hlt
    have hm : e ∈ l.take (aheadL l x) := by
      refine List.mem_of_getElem? (i := i) ?_
      rw [List.getElem?_take_of_lt hlt]; exact he
    rw [← h1] at hm
    have := (List.mem_filter.1 hm).2
    simpa using this
/-- The count is told by what stands on either side of it. -/
theorem ahead_of {l : List En} (h : l.Pairwise (fun x y : En => x.a < y.a)) {x i : Nat} (hi : i ≤ l.length) (h1 : ∀ j e, j < i → l[j]? = some e → e.a < x) (h2 : ∀ j e, i ≤ j → l[j]? = some e → x ≤ e.a) : aheadL l x = i := by
  rcases Nat.lt_trichotomy (aheadL l x) i with hlt | heq | hgt
  · obtain ⟨e, he⟩ : ∃ e, l[aheadL l x]? = some e := ⟨_, List.getElem?_eq_getElem (by omega)⟩
    have := (ahead_lt h he (x := x)).1 (h1 _ e hlt he)
    omega
  · exact heq
  · have := ahead_le l x
    obtain ⟨e, he⟩ : ∃ e, l[i]? = some e := ⟨_, List.getElem?_eq_getElem (by omega)⟩
    have := (ahead_lt h he (x := x)).2 hgt
    have := h2 i e (Nat.le_refl _) he
    omega
theorem begins_at {l : List En} (h : l.Pairwise (fun x y : En => x.a < y.a)) {x : Nat} : beginsL l x = true ↔ ∃ e, l[aheadL l x]? = some e ∧ e.a = x := by
  unfold beginsL
  rw [List.any_eq_true]
  constructor
  · rintro ⟨e, he, hx⟩
    have hx : e.a = x := by simpa using hx
    obtain ⟨i, hi⟩ := List.getElem?_of_mem he
    have h1 := ahead_lt h hi (x := x)
    have : i = aheadL l x := by
      rcases Nat.lt_trichotomy i (aheadL l x) with hlt | heq | hgt
      · have := h1.2 hlt; omega
      · exact heq
      · obtain ⟨f, hf⟩ : ∃ f, l[aheadL l x]? = some f := ⟨_, List.getElem?_eq_getElem (by have := (List.getElem?_eq_some_iff.1 hi).1; omega)⟩
        have h2 := ahead_lt h hf (x := x)
        have h3 : f.a < e.a := by
          have := List.pairwise_iff_getElem.1 h (aheadL l x) i (List.getElem?_eq_some_iff.1 hf).1 (List.getElem?_eq_some_iff.1 hi).1 hgt
          rw [(List.getElem?_eq_some_iff.1 hf).2, (List.getElem?_eq_some_iff.1 hi).2] at this
          exact this
        have := h2.1 (by omega)
        omega
    subst this
    exact ⟨e, hi, hx⟩
  · rintro ⟨e, he, hx⟩
    exact ⟨e, List.mem_of_getElem? he, by simpa using hx⟩

/-! ### What a ledger answers -/
def atL (L : List En) (x : Nat) : Option En := L.find? fun e => decide (e.a = x)
def inL (L : List En) (x : Nat) : Option En := L.find? fun e => decide (e.a ≤ x) && decide (x < e.z)
def metL (L : List En) (a n : Nat) : Bool := L.any fun e => decide (e.a < a + n) && decide (a < e.z)
def freeL (L : List En) (a n : Nat) : Bool := decide (n = 0) || (decide (a + n ≤ 18446744073709551616) && !metL L a n)
def toldE : Option En → (Nat × Nat × Nat) × Nat
  | none => ((0, 0, 0), 5)
  | some e => if e.h then ((0, 0, 0), 7) else (e.b, 0)
theorem atL_some {L : List En} {x : Nat} {e : En} (h : atL L x = some e) : e ∈ L ∧ e.a = x :=
  ⟨List.mem_of_find?_eq_some h, by simpa using List.find?_some h⟩
theorem atL_of {L : List En} (h : GoodL L) {x : Nat} {e : En} (he : e ∈ L) (hx : e.a = x) : atL L x = some e := by
  cases hf : atL L x with
  | none =>
    have := List.find?_eq_none.1 hf e he
    simp [hx] at this
  | some f =>
    have := atL_some hf
    rw [h.eq this.1 he (by omega)]
theorem atL_none {L : List En} {x : Nat} : atL L x = none ↔ ∀ e ∈ L, e.a ≠ x := by
  unfold atL
  rw [List.find?_eq_none]
  simp
theorem inL_some {L : List En} {x : Nat} {e : En} (h : inL L x = some e) : e ∈ L ∧ e.a ≤ x ∧ x < e.z := by
  have := List.find?_some h
  simp only [Bool.and_eq_true, decide_eq_true_eq] at this
  exact ⟨List.mem_of_find?_eq_some h, this⟩
theorem inL_of {L : List En} (h : GoodL L) {x : Nat} {e : En} (he : e ∈ L) (h1 : e.a ≤ x) (h2 : x < e.z) : inL L x = some e := by
  cases hf : inL L x with
  | none =>
    have := List.find?_eq_none.1 hf e he
    simp [h1, h2] at this
  | some f =>
    obtain ⟨hm, g1, g2⟩ := inL_some hf
    rcases pair_mem h.apart hm he with r | r | r
    · rw [r]
    · omega
    · omega
theorem inL_none {L : List En} {x : Nat} : inL L x = none ↔ ∀ e ∈ L, e.a ≤ x → ¬ x < e.z := by
  unfold inL
  rw [List.find?_eq_none]
  simp
theorem metL_iff {L : List En} {a n : Nat} : metL L a n = true ↔ ∃ e ∈ L, e.a < a + n ∧ a < e.z := by
  simp [metL]

/-! ### The last one up to an address -/
def LastL (L : List En) (x : Nat) (e : En) : Prop := e ∈ L ∧ e.a ≤ x ∧ ∀ f ∈ L, f.a ≤ x → f.a ≤ e.a
theorem LastL.at {L : List En} (h : GoodL L) {x : Nat} {e : En} (l : LastL L x e) : atL L x = if e.a = x then some e else none := by
  split
  · rename_i hx; exact atL_of h l.1 hx
  · rename_i hx
    rw [atL_none]
    rintro f hf rfl
    have := l.2.2 f hf (Nat.le_refl _)
    have := l.2.1
    omega
theorem LastL.in {L : List En} (h : GoodL L) {x : Nat} {e : En} (l : LastL L x e) : inL L x = if e.z ≤ x then none else some e := by
  split
  · rename_i hx
    rw [inL_none]
    intro f hf h1 h2
    have h3 := l.2.2 f hf h1
    rcases Nat.lt_or_ge f.a e.a with h4 | h4
    · have := h.order hf l.1 h4; have := e.lt_z; omega
    · rw [h.eq hf l.1 (by omega)] at h2; omega
  · rename_i hx
    exact inL_of h l.1 l.2.1 (by omega)
theorem LastL.free {L : List En} (h : GoodL L) {a n : Nat} (hn : 0 < n) {e : En} (l : LastL L (a + n - 1) e) : metL L a n = !decide (e.z ≤ a) := by
  rw [Bool.eq_iff_iff, metL_iff]
  simp only [Bool.not_eq_true', decide_eq_false_iff_not]
  constructor
  · rintro ⟨f, hf, h1, h2⟩ h3
    have h4 := l.2.2 f hf (by omega)
    rcases Nat.lt_or_ge f.a e.a with h5 | h5
    · have := h.order hf l.1 h5; have := e.lt_z; omega
    · rw [h.eq hf l.1 (by omega)] at h2; omega
  · intro h3
    exact ⟨e, l.1, by have := l.2.1; omega, by omega⟩
theorem none_at {L : List En} {x : Nat} (h : ∀ f ∈ L, x < f.a) : atL L x = none := by
  rw [atL_none]; rintro f hf rfl; exact Nat.lt_irrefl _ (h f hf)
theorem none_in {L : List En} {x : Nat} (h : ∀ f ∈ L, x < f.a) : inL L x = none := by
  rw [inL_none]; intro f hf h1; have := h f hf; omega
theorem none_met {L : List En} {a n : Nat} (hn : 0 < n) (h : ∀ f ∈ L, a + n - 1 < f.a) : metL L a n = false := by
  rw [← Bool.not_eq_true, metL_iff]
  rintro ⟨f, hf, h1, _⟩
  have := h f hf; omega
end LedMath
end Go.Proofs.Ytclmdjkihijciaa
