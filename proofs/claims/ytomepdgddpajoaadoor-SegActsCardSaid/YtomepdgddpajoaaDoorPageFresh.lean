/- Pages (layer 9): a new page's blocks come one behind the other; those that were freed come again. -/
import Derived.Test.YtomepdgddpajoaaDoorPageWh
namespace Go.Proofs.YtomepdgddpajoaaDoor.PageMath
open ListMath GeoMath MemMath
set_option linter.unusedVariables false

theorem news_cons {f s m k : Nat} (hk : 0 < k) : news f s m k = (f + m * s) :: news f s (m + 1) (k - 1) := by
  obtain ⟨j, rfl⟩ : ∃ j, k = j + 1 := ⟨k - 1, by omega⟩
  unfold news
  rw [List.range_succ_eq_map, List.map_cons, List.map_map]
  congr 1
  refine List.map_congr_left fun x _ => ?_
  show f + (m + (x + 1)) * s = f + (m + 1 + x) * s
  rw [show m + (x + 1) = m + 1 + x by omega]
theorem news_snoc (f s m k : Nat) : news f s m (k + 1) = news f s m k ++ [f + (m + k) * s] := by
  unfold news; rw [List.range_succ, List.map_append]; rfl
theorem news_zero (f s m : Nat) : news f s m 0 = [] := rfl
theorem news_get {f s m k i : Nat} (h : i < k) : (news f s m k)[i]? = some (f + (m + i) * s) := by
  unfold news; rw [List.getElem?_map, List.getElem?_range h]; rfl
/-- How many are made when i came. -/
def mk (i n : Nat) : Nat := min n (4 * ((i + 3) / 4))
def fresh (f s n i : Nat) : PG := ⟨f, s, n, mk i n, i, news f s i (mk i n - i), [], 0, 0, 0⟩
theorem fresh_zero (f s n : Nat) : fresh f s n 0 = newPG f s n := by
  have : mk 0 n = 0 := by unfold mk; omega
  unfold fresh newPG; rw [this]; rfl
theorem fresh_alloc {f s n i : Nat} (h : i < n) : allocP (fresh f s n i) = (fresh f s n (i + 1), f + i * s, 0) := by
  by_cases hm : i < mk i n
  · have hF : (fresh f s n i).F = (f + i * s) :: news f s (i + 1) (mk i n - i - 1) := news_cons (by omega)
    have hr := (refill_some (S := fresh f s n i) (by rw [hF]; simp)).1
    unfold allocP
    rw [hr, hF]
    have e : mk (i + 1) n = mk i n := by unfold mk at hm ⊢; omega
    have e2 : mk i n - i - 1 = mk (i + 1) n - (i + 1) := by omega
    show (({ fresh f s n i with F := _, used := _ } : PG), _, _) = _
    unfold fresh
    simp only [Prod.mk.injEq, and_true]
    rw [e, e2, e]
  · have hz : mk i n - i = 0 := by omega
    have hF : (fresh f s n i).F = [] := by show news f s i (mk i n - i) = []; rw [hz]; rfl
    have hmi : mk i n = i := by unfold mk at hm ⊢; omega
    have hr := (refill_more (S := fresh f s n i) hF rfl).1
    have hk : 0 < min 4 (n - i) := by omega
    have hF2 : (refill (fresh f s n i)).F = (f + i * s) :: news f s (i + 1) (min 4 (n - i) - 1) := by
      rw [hr]
      show news f s (mk i n) (min 4 (n - mk i n)) = _
      rw [hmi]; exact news_cons hk
    unfold allocP
    rw [hF2, hr]
    have e : mk (i + 1) n = mk i n + min 4 (n - mk i n) := by rw [hmi]; unfold mk at hm hmi ⊢; omega
    have e2 : min 4 (n - i) - 1 = mk (i + 1) n - (i + 1) := by rw [e, hmi]; omega
    unfold fresh
    simp only [Prod.mk.injEq, and_true]
    rw [e2, ← e]
theorem fresh_full (f s n : Nat) : allocP (fresh f s n n) = (fresh f s n n, 0, 4) ∧ (fresh f s n n).made = n ∧ (fresh f s n n).F = [] := by
  have hm : mk n n = n := by unfold mk; omega
  have hF : (fresh f s n n).F = [] := by show news f s n (mk n n - n) = []; rw [hm, Nat.sub_self]; rfl
  refine ⟨?_, hm, hF⟩
  have hr := (refill_more (S := fresh f s n n) hF rfl).1
  have hF2 : (refill (fresh f s n n)).F = [] := by
    rw [hr]
    show news f s (mk n n) (min 4 (n - mk n n)) = _
    rw [hm, Nat.sub_self]; rfl
  unfold allocP
  rw [hF2]
/-- All of some are freed. -/
def freed (S : PG) (l : List Nat) : PG := { S with G := l.reverse ++ S.G, used := S.used - l.length }
theorem free_all {L : List Nat} : ∀ (l : List Nat) (S : PG), mayN S.f S.s (S.n : Int) = true → S.made ≤ S.n → (∀ a ∈ l, IsBlk S.f S.s S.made a) → l.length ≤ S.used → freeP S l = (freed S l, 0)
  | [], S, _, _, _, _ => by unfold freeP freed; simp
  | a :: t, S, hm, hmn, hb, hl => by
    simp only [List.length_cons] at hl
    obtain ⟨i, hi, e⟩ := hb a (List.mem_cons_self ..)
    have hix := index_hit hm (i := i) (by omega) e
    have hg : givenE S a = 0 := by unfold givenE; rw [hix.1, hix.2, if_pos rfl, if_pos hi]
    have h1 : free1 S a = ({ S with G := a :: S.G, used := S.used - 1 }, 0) := by
      unfold free1; rw [hg, if_neg (fun x => x rfl), if_neg (by omega)]
    show (if (free1 S a).2 = 0 then freeP (free1 S a).1 t else free1 S a) = _
    rw [h1]
    show freeP { S with G := a :: S.G, used := S.used - 1 } t = _
    rw [free_all (L := L) t { S with G := a :: S.G, used := S.used - 1 } hm hmn (fun x hx => hb x (List.mem_cons_of_mem _ hx)) (by show t.length ≤ S.used - 1; omega)]
    unfold freed
    simp only [List.reverse_cons, List.append_assoc, List.singleton_append, List.length_cons]
    rw [show S.used - 1 - t.length = S.used - (t.length + 1) by omega]
/-- With R local, and none free, k came again. -/
def again (S : PG) (R : List Nat) (k : Nat) : PG := if k = 0 then { S with F := [], G := R } else { S with F := R.drop k, G := [], used := S.used + k }
theorem again_alloc {S : PG} {R : List Nat} {k a : Nat} (ha : R[k]? = some a) : allocP (again S R k) = (again S R (k + 1), a, 0) := by
  obtain ⟨hl, e⟩ := List.getElem?_eq_some_iff.1 ha
  by_cases hk : k = 0
  · subst hk
    cases R with
    | nil => simp at ha
    | cons b t =>
      simp at ha; subst ha
      have e1 : again S (b :: t) 0 = { S with F := [], G := b :: t } := rfl
      rw [e1]
      have hr := (refill_local (S := { S with F := [], G := b :: t }) rfl (by simp)).1
      have hF : (refill { S with F := [], G := b :: t }).F = b :: t := by rw [hr]
      unfold allocP
      rw [hF, hr]
      rfl
  · have e1 : again S R k = { S with F := R.drop k, G := [], used := S.used + k } := if_neg hk
    have hd : R.drop k = a :: R.drop (k + 1) := by rw [List.drop_eq_getElem_cons hl, e]
    have hr := (refill_some (S := again S R k) (by rw [e1]; show R.drop k ≠ []; rw [hd]; simp)).1
    have hF : (refill (again S R k)).F = a :: R.drop (k + 1) := by rw [hr, e1]; exact hd
    unfold allocP
    rw [hF, hr, e1]
    have e2 : again S R (k + 1) = { S with F := R.drop (k + 1), G := [], used := S.used + (k + 1) } := if_neg (by omega)
    rw [e2]
    rfl
theorem again_full {S : PG} {R : List Nat} (hm : S.made = S.n) : allocP (again S R R.length) = (again S R R.length, 0, 4) := by
  have hF : (again S R R.length).F = [] ∧ (again S R R.length).G = [] ∧ (again S R R.length).made = S.made ∧ (again S R R.length).n = S.n := by
    unfold again
    split
    · rename_i h; have := List.length_eq_zero_iff.1 h; subst this; exact ⟨rfl, rfl, rfl, rfl⟩
    · exact ⟨List.drop_length .., rfl, rfl, rfl⟩
  have hr := (refill_more hF.1 hF.2.1).1
  have hF2 : (refill (again S R R.length)).F = [] := by
    rw [hr]
    show news _ _ _ (min 4 ((again S R R.length).n - (again S R R.length).made)) = _
    rw [hF.2.2.1, hF.2.2.2, hm, Nat.sub_self]; rfl
  unfold allocP
  rw [hF2]
end Go.Proofs.YtomepdgddpajoaaDoor.PageMath
