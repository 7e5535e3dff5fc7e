/- Segments, as numbers: more. -/
import Derived.Test.YtfdnmoedejejlaaGreatDoorSegMath
namespace Go.Proofs.YtfdnmoedejejlaaGreatDoor.SegMath
open ListMath GeoMath PageMath ClassMath
set_option linter.unusedVariables false

theorem sumW_len : ∀ {l : List OwR}, (∀ o ∈ l, 1 ≤ o.wd) → l.length ≤ sumW l
  | [], _ => Nat.le_refl _
  | o :: t, h => by
    have ih := sumW_len (l := t) fun x hx => h x (List.mem_cons_of_mem _ hx)
    have h1 := h o (List.mem_cons_self ..)
    rw [sumW_cons, List.length_cons]; omega
theorem GoodG.count {X : SG} (g : GoodG X) : X.L.length ≤ 15 := by
  have h1 := sumW_len fun o ho => (g.fit o ho).2.1
  have h2 := g.sum
  omega
theorem sumW_mem : ∀ {l : List OwR} {o : OwR}, o ∈ l → o.wd ≤ sumW l
  | [], _, h => by cases h
  | x :: t, o, h => by
    rw [sumW_cons]
    rcases List.mem_cons.1 h with rfl | h
    · omega
    · have := sumW_mem h; omega
theorem sumW_take {l : List OwR} {t : Nat} {o : OwR} (h : l[t]? = some o) : sumW (l.take (t + 1)) = sumW (l.take t) + o.wd := by
  rw [List.take_add_one, h, sumW_app]
  show _ + sumW [o] = _
  rw [sumW_cons]; rfl
theorem sumW_take_le (l : List OwR) (t : Nat) : sumW (l.take t) ≤ sumW l := by
  have e : sumW (l.take t ++ l.drop t) = sumW l := by rw [List.take_append_drop]
  rw [sumW_app] at e; omega
theorem rise_at {l : List OwR} (h : l.Pairwise fun a b => a.lo + a.wd ≤ b.lo) {i j : Nat} {a b : OwR} (hij : i < j) (ha : l[i]? = some a) (hb : l[j]? = some b) : a.lo + a.wd ≤ b.lo := by
  obtain ⟨h1, rfl⟩ := List.getElem?_eq_some_iff.1 ha
  obtain ⟨h2, rfl⟩ := List.getElem?_eq_some_iff.1 hb
  exact List.pairwise_iff_getElem.1 h i j h1 h2 hij
end Go.Proofs.YtfdnmoedejejlaaGreatDoor.SegMath
