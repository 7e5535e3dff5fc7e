/- What LedgerOrders needs, in plain lists: blocks one behind the other. -/
import Derived.Test.YtklblmodpkhjnaaLedMath4
namespace Go.Proofs.Ytklblmodpkhjnaa
set_option linter.unusedVariables false

namespace LedMath
def stepN (n : Nat) : Nat := (max n 1 + 15) / 16 * 16
def ordE : Nat → List Nat → List En
  | _, [] => []
  | p, n :: r => ⟨p, n, 16, false⟩ :: ordE (p + stepN n) r
def posN (p : Nat) : List Nat → Nat → Nat
  | _, 0 => p
  | [], _ + 1 => p
  | n :: r, j + 1 => posN (p + stepN n) r j
theorem ord_len : ∀ (l : List Nat) (p : Nat), (ordE p l).length = l.length
  | [], _ => rfl
  | n :: r, p => by show (ordE (p + stepN n) r).length + 1 = r.length + 1; rw [ord_len r]
theorem ord_get : ∀ (l : List Nat) (p j n : Nat), l[j]? = some n → (ordE p l)[j]? = some ⟨posN p l j, n, 16, false⟩ ∧ posN p l (j + 1) = posN p l j + stepN n
  | [], _, _, _, h => by simp at h
  | m :: r, p, 0, n, h => by
    simp at h
    subst h
    refine ⟨rfl, ?_⟩
    show posN (p + stepN m) r 0 = p + stepN m
    cases r <;> rfl
  | m :: r, p, j + 1, n, h => by
    have := ord_get r (p + stepN m) j n (by simpa using h)
    exact this
theorem pos_le : ∀ (l : List Nat) (p j : Nat), (∀ n ∈ l, n ≤ 255) → posN p l j ≤ p + 256 * j
  | l, p, 0, _ => by cases l <;> exact Nat.le_refl _
  | [], p, j + 1, _ => by show p ≤ _; omega
  | n :: r, p, j + 1, h => by
    have h1 := pos_le r (p + stepN n) j fun m hm => h m (List.mem_cons_of_mem _ hm)
    have h2 := h n List.mem_cons_self
    have h3 : stepN n ≤ 256 := by unfold stepN; omega
    show posN (p + stepN n) r j ≤ _
    omega
theorem ord_good : ∀ (l : List Nat) (p : Nat), p % 16 = 0 → (∀ n ∈ l, n ≤ 255) → p + 256 * l.length ≤ 1048576 → GoodL (ordE p l) ∧ ∀ e ∈ ordE p l, p ≤ e.a
  | [], p, _, _, _ => ⟨GoodL.nil, fun e he => absurd he List.not_mem_nil⟩
  | n :: r, p, h1, h2, h3 => by
    have hn := h2 n List.mem_cons_self
    have hs : stepN n ≤ 256 ∧ max n 1 ≤ stepN n ∧ stepN n % 16 = 0 := by unfold stepN; omega
    rw [List.length_cons] at h3
    obtain ⟨g, ge⟩ := ord_good r (p + stepN n) (by omega) (fun m hm => h2 m (List.mem_cons_of_mem _ hm)) (by omega)
    refine ⟨⟨List.pairwise_cons.2 ⟨fun e he => ?_, g.apart⟩, fun e he => ?_⟩, fun e he => ?_⟩
    · have := ge e he
      show p + max n 1 ≤ e.a
      omega
    · rcases List.mem_cons.1 he with rfl | he
      · show mayE p n 16 = true
        have hp : CalcMath.isP2 16 = true := by decide
        simp only [mayE, Bool.and_eq_true, decide_eq_true_eq]
        exact ⟨⟨⟨by omega, hp⟩, by decide⟩, h1⟩
      · exact g.may e he
    · rcases List.mem_cons.1 he with rfl | he
      · exact Nat.le_refl _
      · have := ge e he; omega
theorem ord_free : ∀ (l : List Nat) (p : Nat), ∀ e ∈ ordE p l, e.h = false
  | [], _, e, he => absurd he List.not_mem_nil
  | n :: r, p, e, he => by
    rcases List.mem_cons.1 he with rfl | he
    · rfl
    · exact ord_free r _ e he
/-- One put between those ahead of it, and some that stand behind it. -/
theorem ord_add {E : List En} (h : GoodL E) {i k : Nat} {e : En} (he : E[i]? = some e) (hh : e.h = false) (hik : i < k) : addE (E.take i ++ E.drop k) e.a e.n e.g = (0, E.take (i + 1) ++ E.drop k) := by
  have hi := (List.getElem?_eq_some_iff.1 he).1
  have hr := h.rise
  have ix : ∀ {j : Nat} {f : En}, E[j]? = some f → j < i → f.a < e.a := fun {j f} hf hj => by
    have := List.pairwise_iff_getElem.1 hr j i (List.getElem?_eq_some_iff.1 hf).1 hi hj
    rwa [(List.getElem?_eq_some_iff.1 hf).2, (List.getElem?_eq_some_iff.1 he).2] at this
  have iy : ∀ {j : Nat} {f : En}, E[j]? = some f → i < j → e.a < f.a := fun {j f} hf hj => by
    have := List.pairwise_iff_getElem.1 hr i j hi (List.getElem?_eq_some_iff.1 hf).1 hj
    rwa [(List.getElem?_eq_some_iff.1 hf).2, (List.getElem?_eq_some_iff.1 he).2] at this
  have hA : ∀ f ∈ E.take i, f ∈ E ∧ f.a < e.a := fun f hf => by
    obtain ⟨j, hj⟩ := List.getElem?_of_mem hf
    have hjl := (List.getElem?_eq_some_iff.1 hj).1
    rw [List.length_take] at hjl
    rw [List.getElem?_take_of_lt (by omega)] at hj
    exact ⟨List.mem_of_getElem? hj, ix hj (by omega)⟩
  have hB : ∀ f ∈ E.drop k, f ∈ E ∧ e.a < f.a := fun f hf => by
    obtain ⟨j, hj⟩ := List.getElem?_of_mem hf
    rw [List.getElem?_drop] at hj
    exact ⟨List.mem_of_getElem? hj, iy hj (by omega)⟩
  have hm := List.mem_of_getElem? he
  have hmet : metL (E.take i ++ E.drop k) e.a e.t = false := by
    rw [← Bool.not_eq_true, metL_iff]
    rintro ⟨f, hf, h1, h2⟩
    have hz : e.z = e.a + e.t := rfl
    rcases List.mem_append.1 hf with hf | hf
    · obtain ⟨h3, h4⟩ := hA f hf
      have := h.order h3 hm h4; omega
    · obtain ⟨h3, h4⟩ := hB f hf
      have := h.order hm h3 h4; omega
  unfold addE
  rw [if_pos (h.may e hm), show max e.n 1 = e.t from rfl, hmet, if_neg (by decide)]
  congr 1
  have f1 : (E.take i).filter (fun y => decide (y.a < e.a)) = E.take i := List.filter_eq_self.2 fun y hy => by simpa using (hA y hy).2
  have f2 : (E.drop k).filter (fun y => decide (y.a < e.a)) = [] := List.filter_eq_nil_iff.2 fun y hy => by have := (hB y hy).2; simp; omega
  have f3 : (E.take i).filter (fun y => decide (e.a ≤ y.a)) = [] := List.filter_eq_nil_iff.2 fun y hy => by have := (hA y hy).2; simp; omega
  have f4 : (E.drop k).filter (fun y => decide (e.a ≤ y.a)) = E.drop k := List.filter_eq_self.2 fun y hy => by have := (hB y hy).2; simp; omega
  show (E.take i ++ E.drop k).filter (fun y => decide (y.a < e.a)) ++ (⟨e.a, e.n, e.g, false⟩ : En) :: (E.take i ++ E.drop k).filter (fun y => decide (e.a ≤ y.a)) = _
  rw [List.filter_append, List.filter_append, f1, f2, f3, f4, List.take_add_one, he]
  have : (⟨e.a, e.n, e.g, false⟩ : En) = e := by rw [← hh]
  rw [this]
  simp
theorem ord_drop {E : List En} (h : GoodL E) {j : Nat} {e : En} (he : E[j]? = some e) : drop1 (E.drop j) e.a = (0, E.drop (j + 1)) := by
  obtain ⟨h1, h2⟩ := List.getElem?_eq_some_iff.1 he
  have hd : E.drop j = e :: E.drop (j + 1) := by rw [← h2]; exact List.drop_eq_getElem_cons h1
  have hr : (E.drop j).Pairwise fun x y : En => x.a < y.a := h.rise.sublist (List.drop_sublist _ _)
  rw [hd] at hr ⊢
  rw [List.pairwise_cons] at hr
  have f1 : dropE (e :: E.drop (j + 1)) e.a = E.drop (j + 1) := by
    unfold dropE
    rw [List.filter_cons, if_neg (by simp)]
    exact List.filter_eq_self.2 fun y hy => by have := hr.1 y hy; simp; omega
  unfold drop1 atL
  rw [List.find?_cons_of_pos (by simp), f1]
theorem good_drop {E : List En} (h : GoodL E) (k : Nat) : GoodL (E.drop k) := ⟨h.apart.sublist (List.drop_sublist _ _), fun e he => h.may e (List.mem_of_mem_drop he)⟩
/-- What b has behind j of: those from the k-th on, then those ahead of it. -/
def turnM (E : List En) (k j : Nat) : List En := if j ≤ E.length - k then (E.drop k).take j else E.take (j - (E.length - k)) ++ E.drop k
theorem turn_zero (E : List En) (k : Nat) : turnM E k 0 = [] := by unfold turnM; simp
theorem turn_all {E : List En} {k : Nat} (hk : k ≤ E.length) : turnM E k E.length = E := by
  unfold turnM
  split
  · have : k = 0 := by omega
    subst this; simp
  · rw [show E.length - (E.length - k) = k by omega, List.take_append_drop]
theorem turn_get {E : List En} {k j : Nat} (hk : k ≤ E.length) (hj : j < E.length) : (E.drop k ++ E.take k)[j]? = if j < E.length - k then E[k + j]? else E[j - (E.length - k)]? := by
  split
  · rw [List.getElem?_append_left (by rw [List.length_drop]; omega), List.getElem?_drop]
  · rw [List.getElem?_append_right (by rw [List.length_drop]; omega), List.length_drop, List.getElem?_take_of_lt (by omega)]
theorem turn_next {E : List En} (h : GoodL E) (hh : ∀ e ∈ E, e.h = false) {k j : Nat} (hk : k ≤ E.length) {e : En} (he : (E.drop k ++ E.take k)[j]? = some e) : addE (turnM E k j) e.a e.n e.g = (0, turnM E k (j + 1)) := by
  have hj : j < E.length := by
    have := (List.getElem?_eq_some_iff.1 he).1
    rw [List.length_append, List.length_drop, List.length_take] at this; omega
  rw [turn_get hk hj] at he
  split at he
  · rename_i hlt
    have he' : (E.drop k)[j]? = some e := by rw [List.getElem?_drop]; exact he
    have := ord_add (good_drop h k) (k := (E.drop k).length) he' (hh e (List.mem_of_getElem? he)) (by rw [List.length_drop]; omega)
    rw [List.drop_of_length_le (Nat.le_refl _), List.append_nil, List.append_nil] at this
    unfold turnM
    rw [if_pos (by omega), if_pos (by omega)]
    exact this
  · rename_i hge
    have := ord_add h (k := k) he (hh e (List.mem_of_getElem? he)) (by omega)
    unfold turnM
    by_cases h0 : j = E.length - k
    · rw [if_pos (by omega), if_neg (by omega)]
      rw [show (E.drop k).take j = E.drop k from List.take_of_length_le (by rw [List.length_drop]; omega)]
      rw [show j - (E.length - k) = 0 by omega] at this
      rw [show j + 1 - (E.length - k) = 1 by omega]
      simpa using this
    · rw [if_neg (by omega), if_neg (by omega), show j + 1 - (E.length - k) = j - (E.length - k) + 1 by omega]
      exact this
end LedMath
end Go.Proofs.Ytklblmodpkhjnaa
