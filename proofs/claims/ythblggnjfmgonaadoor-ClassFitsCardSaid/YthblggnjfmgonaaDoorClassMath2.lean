/- What plans are like. -/
import Derived.Test.YthblggnjfmgonaaDoorClassMath
namespace Go.Proofs.YthblggnjfmgonaaDoor.ClassMath
set_option linter.unusedVariables false

theorem al_cases {a : Nat} (h : isAl a = true) : a = 1 ∨ a = 2 ∨ a = 4 ∨ a = 8 ∨ a = 16 ∨ a = 32 ∨ a = 64 ∨ a = 128 ∨ a = 256 ∨ a = 512 ∨ a = 1024 := by
  unfold isAl at h
  simpa using h
theorem al_pow {b : Nat} (h : b ≤ 10) : isAl (2 ^ b) = true := by
  have : ∀ b : Fin 11, isAl (2 ^ b.1) = true := by decide
  exact this ⟨b, by omega⟩
/-- The greatest class is at a multiple of each alignment. -/
theorem al_top {a : Nat} (h : isAl a = true) : 1024 % a = 0 := by
  rcases al_cases h with rfl | rfl | rfl | rfl | rfl | rfl | rfl | rfl | rfl | rfl | rfl <;> rfl
theorem fit_small {n a : Nat} (h : isAl a = true) (hn : n ≤ 1024) : ∃ c, fitN n a = some c ∧ c < 12 ∧ n ≤ sizeAt c ∧ sizeAt c % a = 0 ∧ ∀ d, d < c → ¬ (n ≤ sizeAt d ∧ sizeAt d % a = 0) := by
  cases hf : fitN n a with
  | none =>
    have := firstC_none hf 11 (by decide)
    simp only [decide_eq_false_iff_not] at this
    exact absurd ⟨hn, al_top h⟩ this
  | some c =>
    obtain ⟨h1, h2, h3⟩ := firstC_some hf
    simp only [decide_eq_true_eq] at h2
    exact ⟨c, rfl, h1, h2.1, h2.2, fun d hd => of_decide_eq_false (h3 d hd)⟩
theorem fit_great {n a : Nat} (hn : 1024 < n) : fitN n a = none :=
  firstC_no fun c hc => decide_eq_false (fun h => by have := (size_bounds hc).2; omega)
/-- In its three ways. -/
theorem forN_small {n a : Nat} (h : isAl a = true) (hn : n ≤ 1024) : ∃ c : Nat, forN n a = (⟨(c : Int), slicesAt c, 0, sizeAt c⟩, 0) ∧ c < 12 ∧ n ≤ sizeAt c ∧ sizeAt c % a = 0 ∧ ∀ d, d < c → ¬ (n ≤ sizeAt d ∧ sizeAt d % a = 0) := by
  obtain ⟨c, h1, h2, h3, h4, h5⟩ := fit_small (n := max n 1) h (by omega)
  refine ⟨c, ?_, h2, by omega, h4, fun d hd hx => h5 d hd ⟨?_, hx.2⟩⟩
  · unfold forN; rw [if_pos ⟨h, by omega⟩, h1]
  · have := (size_bounds (c := d) (by omega)).1; have := hx.1; omega
theorem forN_mid {n a : Nat} (h : isAl a = true) (h1 : 1024 < n) (h2 : n ≤ 15360) : forN n a = (⟨-1, up n 1024, 0, up n 1024 * 1024⟩, 0) := by
  unfold forN; rw [if_pos ⟨h, by omega⟩, show max n 1 = n by omega, fit_great h1]; simp only; rw [if_pos h2]
theorem forN_great {n a : Nat} (h : isAl a = true) (h1 : 15360 < n) (h2 : n ≤ 1048576) : forN n a = (⟨-1, 0, up n 16384, up n 16384 * 16384⟩, 0) := by
  unfold forN; rw [if_pos ⟨h, h2⟩, show max n 1 = n by omega, fit_great (by omega)]; simp only; rw [if_neg (by omega)]
theorem forN_bad {n a : Nat} (h : ¬ (isAl a = true ∧ n ≤ 1048576)) : forN n a = (Pl.none, 2) := by unfold forN; rw [if_neg h]
theorem forN_ok {n a : Nat} (h : isAl a = true) (h2 : n ≤ 1048576) : (forN n a).2 = 0 := by
  rcases Nat.lt_or_ge 1024 n with h3 | h3
  · rcases Nat.lt_or_ge 15360 n with h4 | h4
    · rw [forN_great h h4 h2]
    · rw [forN_mid h h3 h4]
  · obtain ⟨c, e, _⟩ := forN_small h h3
    rw [e]
/-- A plan has enough, is of one kind alone, and no lesser one would do. -/
theorem forN_enough {n a : Nat} (h : isAl a = true) (h2 : n ≤ 1048576) :
    n ≤ (forN n a).1.us ∧ 1 ≤ (forN n a).1.us ∧ (forN n a).1.us % 16 = 0 ∧ (forN n a).1.us ≤ 1048576 := by
  rcases Nat.lt_or_ge 1024 n with h3 | h3
  · rcases Nat.lt_or_ge 15360 n with h4 | h4
    · rw [forN_great h h4 h2]; simp only [up]; omega
    · rw [forN_mid h h3 h4]; simp only [up]; omega
  · obtain ⟨c, e, hc, h5, _⟩ := forN_small h h3
    rw [e]
    have := size_bounds hc
    have := size_16 hc
    simp only; omega
theorem forN_zero {a : Nat} (h : isAl a = true) : forN 0 a = forN 1 a := by
  unfold forN
  rw [if_pos (show isAl a = true ∧ 0 ≤ 1048576 from ⟨h, by omega⟩), if_pos (show isAl a = true ∧ 1 ≤ 1048576 from ⟨h, by omega⟩)]
  rfl
theorem forN_mono {n m a : Nat} (h : isAl a = true) (hnm : n ≤ m) (h2 : m ≤ 1048576) : (forN n a).1.us ≤ (forN m a).1.us := by
  rcases Nat.lt_or_ge 1024 m with h3 | h3
  · rcases Nat.lt_or_ge 15360 m with h4 | h4
    · rw [forN_great h h4 h2]
      rcases Nat.lt_or_ge 1024 n with h5 | h5
      · rcases Nat.lt_or_ge 15360 n with h6 | h6
        · rw [forN_great h h6 (by omega)]; simp only [up]; omega
        · rw [forN_mid h h5 h6]; simp only [up]; omega
      · obtain ⟨c, e, hc, _⟩ := forN_small h h5
        rw [e]
        have := size_bounds hc
        simp only [up]; omega
    · rw [forN_mid h h3 h4]
      rcases Nat.lt_or_ge 1024 n with h5 | h5
      · rw [forN_mid h h5 (by omega)]; simp only [up]; omega
      · obtain ⟨c, e, hc, _⟩ := forN_small h h5
        rw [e]
        have := size_bounds hc
        simp only [up]; omega
  · obtain ⟨c, e, hc, h5, h6, h7⟩ := forN_small h h3
    obtain ⟨d, e', hd, g5, g6, g7⟩ := forN_small h (Nat.le_trans hnm h3)
    rw [e, e']
    simp only
    rcases Nat.lt_or_ge c d with x | x
    · exact absurd ⟨by omega, h6⟩ (g7 c x)
    · rcases Nat.lt_or_ge d c with y | y
      · exact Nat.le_of_lt (size_mono y hc)
      · obtain rfl : c = d := by omega
        exact Nat.le_refl _
theorem one_al : isAl 1 = true := by decide
theorem forN_one {n a : Nat} (h : isAl a = true) (h2 : n ≤ 1048576) : (forN n 1).1.us ≤ (forN n a).1.us := by
  rcases Nat.lt_or_ge 1024 n with h3 | h3
  · rcases Nat.lt_or_ge 15360 n with h4 | h4
    · rw [forN_great h h4 h2, forN_great one_al h4 h2]; exact Nat.le_refl _
    · rw [forN_mid h h3 h4, forN_mid one_al h3 h4]; exact Nat.le_refl _
  · obtain ⟨c, e, hc, h5, h6, h7⟩ := forN_small h h3
    obtain ⟨d, e', hd, g5, g6, g7⟩ := forN_small one_al h3
    rw [e, e']
    simp only
    rcases Nat.lt_or_ge c d with x | x
    · exact absurd ⟨h5, Nat.mod_one _⟩ (g7 c x)
    · rcases Nat.lt_or_ge d c with y | y
      · exact Nat.le_of_lt (size_mono y hc)
      · obtain rfl : c = d := by omega
        exact Nat.le_refl _
/-- Up to 16 the alignment asks for no more. -/
theorem forN_16 {n a : Nat} (h : isAl a = true) (ha : a ≤ 16) (h2 : n ≤ 1048576) : forN n a = forN n 1 := by
  have hd : ∀ c, c < 12 → sizeAt c % a = 0 := fun c hc => by
    have h16 := size_16 hc
    have : 16 % a = 0 := by
      rcases al_cases h with rfl | rfl | rfl | rfl | rfl | rfl | rfl | rfl | rfl | rfl | rfl <;> first | rfl | omega
    exact Nat.mod_eq_zero_of_dvd (Nat.dvd_trans (Nat.dvd_of_mod_eq_zero this) (Nat.dvd_of_mod_eq_zero h16))
  have hf : ∀ m, fitN m a = fitN m 1 := fun m => by
    cases hx : fitN m 1 with
    | none =>
      refine firstC_no fun c hc => ?_
      have := firstC_none hx c hc
      simp only [decide_eq_false_iff_not] at this ⊢
      exact fun y => this ⟨y.1, Nat.mod_one _⟩
    | some c =>
      obtain ⟨h1, h3, h4⟩ := firstC_some hx
      simp only [decide_eq_true_eq] at h3
      refine firstC_of h1 (decide_eq_true ⟨h3.1, hd c h1⟩) fun d hdc => ?_
      have := h4 d hdc
      simp only [decide_eq_false_iff_not] at this ⊢
      exact fun y => this ⟨y.1, Nat.mod_one _⟩
  unfold forN
  rw [if_pos (show isAl a = true ∧ n ≤ 1048576 from ⟨h, h2⟩), if_pos (show isAl 1 = true ∧ n ≤ 1048576 from ⟨one_al, h2⟩), hf]
/-- No more than twice as many, or 16. -/
theorem forN_waste {n : Nat} (h1 : 1 ≤ n) (h2 : n ≤ 1048576) : (forN n 1).1.us ≤ max 16 (2 * n) := by
  rcases Nat.lt_or_ge 1024 n with h3 | h3
  · rcases Nat.lt_or_ge 15360 n with h4 | h4
    · rw [forN_great one_al h4 h2]; simp only [up]; omega
    · rw [forN_mid one_al h3 h4]; simp only [up]; omega
  · obtain ⟨c, e, hc, h5, h6, h7⟩ := forN_small one_al h3
    rw [e]
    simp only
    rcases Nat.eq_zero_or_pos c with h0 | h0
    · subst h0
      have : sizeAt 0 = 16 := rfl
      omega
    · have h8 : sizeAt (c - 1) < n := by
        rcases Nat.lt_or_ge (sizeAt (c - 1)) n with x | x
        · exact x
        · exact absurd ⟨x, Nat.mod_one _⟩ (h7 (c - 1) (by omega))
      have h9 : sizeAt c ≤ 2 * sizeAt (c - 1) := below12 (P := fun c => 1 ≤ c → sizeAt c ≤ 2 * sizeAt (c - 1)) (by decide) c hc h0
      omega
/-- A power of two, as bits tell it. -/
theorem al_bits {a : Nat} (h1 : 1 ≤ a) (h2 : a ≤ 1024) : (a &&& (a - 1) = 0) ↔ isAl a = true := by
  have : ∀ a : Fin 1025, 1 ≤ a.1 → ((a.1 &&& (a.1 - 1) = 0) ↔ isAl a.1 = true) := by decide +kernel
  exact this ⟨a, by omega⟩ h1
/-- Of a class's size the class is that; of one more, the next. -/
theorem ofN_size {c : Nat} (h : c < 12) : ofN (sizeAt c) = some c :=
  firstC_of h (decide_eq_true (Nat.le_refl _)) fun d hd => decide_eq_false (by have := size_mono hd h; omega)
theorem ofN_next {c : Nat} (h : c < 11) : ofN (sizeAt c + 1) = some (c + 1) :=
  firstC_of (by omega) (decide_eq_true (by have := size_rise h; omega)) fun d hd => decide_eq_false (by
    rcases Nat.lt_or_ge d c with x | x
    · have := size_mono x (by omega : c < 12); omega
    · obtain rfl : d = c := by omega
      omega)
theorem ofN_top : ofN (sizeAt 11 + 1) = none := firstC_no fun c hc => decide_eq_false (by have := (size_bounds hc).2; have : sizeAt 11 = 1024 := rfl; omega)
theorem ofN_great {n : Nat} (h : 1024 < n) : ofN n = none := firstC_no fun c hc => decide_eq_false (by have := (size_bounds hc).2; omega)
theorem ofN_small {n : Nat} (h : n ≤ 1024) : ∃ c, ofN n = some c ∧ c < 12 := by
  cases hf : ofN n with
  | none =>
    have := firstC_none hf 11 (by decide)
    simp only [decide_eq_false_iff_not] at this
    exact absurd h this
  | some c => exact ⟨c, rfl, (firstC_some hf).1⟩
end Go.Proofs.YthblggnjfmgonaaDoor.ClassMath
