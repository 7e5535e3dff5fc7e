/- What LedgerHolds, LedgerOrders need, in plain lists. -/
import Derived.Test.YtclmdjkihijciaaLedMath3
namespace Go.Proofs.Ytclmdjkihijciaa
set_option linter.unusedVariables false

namespace LedMath
theorem setE_b (L : List En) (x : Nat) (f : Bool) : (setE L x f).map En.b = L.map En.b := by
  unfold setE
  rw [List.map_map]
  exact List.map_congr_left fun e _ => by simp only [Function.comp]; split <;> rfl
theorem mem_setE {L : List En} {e : En} (he : e ∈ L) (f : Bool) : putH f e ∈ setE L e.a f := List.mem_map.2 ⟨e, he, by rw [if_pos rfl]⟩
theorem told_at {M : List En} (h : GoodL M) {e : En} (he : e ∈ M) : toldE (atL M e.a) = if e.h = true then ((0, 0, 0), 7) else (e.b, 0) := by rw [atL_of h he rfl]; rfl
theorem told_in {M : List En} (h : GoodL M) {e : En} (he : e ∈ M) {x : Nat} (h1 : e.a ≤ x) (h2 : x < e.z) : toldE (inL M x) = if e.h = true then ((0, 0, 0), 7) else (e.b, 0) := by rw [inL_of h he h1 h2]; rfl
theorem hold_at {M : List En} (h : GoodL M) {e : En} (he : e ∈ M) : hold1 M e.a = if e.h = true then (7, M) else (0, setE M e.a true) := by unfold hold1; rw [atL_of h he rfl]
theorem let_at {M : List En} (h : GoodL M) {e : En} (he : e ∈ M) : let1 M e.a = if e.h = true then (0, setE M e.a false) else (8, M) := by unfold let1; rw [atL_of h he rfl]
theorem drop_at {M : List En} (h : GoodL M) {e : En} (he : e ∈ M) : drop1 M e.a = (0, dropE M e.a) := by unfold drop1; rw [atL_of h he rfl]
theorem at_dropE (M : List En) (x : Nat) : atL (dropE M x) x = none := atL_none.2 fun e he => by
  have := (List.mem_filter.1 he).2
  simpa using this
theorem met_self {M : List En} {e : En} (he : e ∈ M) {n : Nat} (hn : 0 < n) : metL M e.a n = true := metL_iff.2 ⟨e, he, by omega, e.lt_z⟩
theorem met_dropE {M : List En} (h : GoodL M) {e : En} (he : e ∈ M) : metL (dropE M e.a) e.a e.t = false := by
  rw [← Bool.not_eq_true, metL_iff]
  rintro ⟨f, hf, h1, h2⟩
  obtain ⟨h3, h4⟩ := List.mem_filter.1 hf
  have h4 : f.a ≠ e.a := by simpa using h4
  have hz : e.z = e.a + e.t := rfl
  rcases Nat.lt_trichotomy f.a e.a with h5 | h5 | h5
  · have := h.order h3 he h5; omega
  · exact h4 h5
  · have := h.order he h3 h5; omega
theorem again_b {M : List En} (h : GoodL M) {e : En} (he : e ∈ M) (f : Bool) : (insE (dropE M e.a) ⟨e.a, e.n, e.g, f⟩).map En.b = M.map En.b := by
  obtain ⟨A, B, rfl⟩ := List.append_of_mem he
  have hr := h.rise
  rw [List.pairwise_append, List.pairwise_cons] at hr
  obtain ⟨_, ⟨hB, _⟩, hAB⟩ := hr
  have hA : ∀ y ∈ A, y.a < e.a := fun y hy => hAB y hy e List.mem_cons_self
  have d1 : A.filter (fun y => !decide (y.a = e.a)) = A := List.filter_eq_self.2 fun y hy => by have := hA y hy; simp; omega
  have d2 : B.filter (fun y => !decide (y.a = e.a)) = B := List.filter_eq_self.2 fun y hy => by have := hB y hy; simp; omega
  have hd : dropE (A ++ e :: B) e.a = A ++ B := by
    unfold dropE
    rw [List.filter_append, List.filter_cons, d1, d2]
    simp
  rw [hd]
  have f1 : A.filter (fun y => decide (y.a < e.a)) = A := List.filter_eq_self.2 fun y hy => by simpa using hA y hy
  have f2 : B.filter (fun y => decide (y.a < e.a)) = [] := List.filter_eq_nil_iff.2 fun y hy => by have := hB y hy; simp; omega
  have f3 : A.filter (fun y => decide (e.a ≤ y.a)) = [] := List.filter_eq_nil_iff.2 fun y hy => by have := hA y hy; simp; omega
  have f4 : B.filter (fun y => decide (e.a ≤ y.a)) = B := List.filter_eq_self.2 fun y hy => by have := hB y hy; simp; omega
  show ((A ++ B).filter (fun y => decide (y.a < e.a)) ++ (⟨e.a, e.n, e.g, f⟩ : En) :: (A ++ B).filter (fun y => decide (e.a ≤ y.a))).map En.b = _
  rw [List.filter_append, List.filter_append, f1, f2, f3, f4]
  simp [En.b]
end LedMath
end Go.Proofs.Ytclmdjkihijciaa
