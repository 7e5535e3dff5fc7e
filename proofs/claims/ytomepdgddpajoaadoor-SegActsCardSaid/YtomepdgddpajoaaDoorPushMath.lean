/- Layer 7: pushes one by one; what hangs on a block, so far. -/
import Derived.Test.YtomepdgddpajoaaDoorChains
namespace Go.Proofs.YtomepdgddpajoaaDoor.ListMath
open MemMath
set_option linter.unusedVariables false

theorem pushN_app' : ∀ (l m : List Nat) (s : LS), (pushN s l).2 = 0 → pushN s (l ++ m) = pushN (pushN s l).1 m
  | [], m, s, _ => rfl
  | a :: t, m, s, h => by
    by_cases h1 : (push1 s a).2 = 0
    · have e1 : pushN s (a :: t) = pushN (push1 s a).1 t := by show (if _ then _ else _) = _; rw [if_pos h1]
      have e2 : pushN s (a :: t ++ m) = pushN (push1 s a).1 (t ++ m) := by rw [List.cons_append]; show (if _ then _ else _) = _; rw [if_pos h1]
      rw [e1] at h ⊢
      rw [e2]
      exact pushN_app' t m _ h
    · have e1 : pushN s (a :: t) = push1 s a := by show (if _ then _ else _) = _; rw [if_neg h1]
      rw [e1] at h
      exact absurd h h1
theorem pushN_one (s : LS) (a : Nat) : pushN s [a] = push1 s a := by
  show (if _ then _ else _) = _
  by_cases h : (push1 s a).2 = 0
  · rw [if_pos h]; show ((push1 s a).1, (0 : Int)) = _; rw [← h]
  · rw [if_neg h]
theorem pushN_stop' (s : LS) (a : Nat) (m : List Nat) (h : (push1 s a).2 ≠ 0) : pushN s (a :: m) = push1 s a := by
  show (if _ then _ else _) = _; rw [if_neg h]
/-- After j pushes that went: the next one. -/
theorem pushN_take {s : LS} {l : List Nat} {j a : Nat} (ha : l[j]? = some a) (h : (pushN s (l.take j)).2 = 0) : pushN s (l.take (j + 1)) = push1 (pushN s (l.take j)).1 a := by
  rw [List.take_add_one, ha]
  show pushN s (l.take j ++ [a]) = _
  rw [pushN_app' _ _ _ h, pushN_one]
theorem pushN_halt {s : LS} {l : List Nat} {j a : Nat} (ha : l[j]? = some a) (h : (pushN s (l.take j)).2 = 0) (h2 : (push1 (pushN s (l.take j)).1 a).2 ≠ 0) : pushN s l = push1 (pushN s (l.take j)).1 a := by
  obtain ⟨hl, e⟩ := List.getElem?_eq_some_iff.1 ha
  have hs : l = l.take j ++ a :: l.drop (j + 1) := by rw [← e, ← List.drop_eq_getElem_cons hl, List.take_append_drop]
  have := pushN_app' (l.take j) (a :: l.drop (j + 1)) s h
  rw [← hs] at this
  rw [this, pushN_stop' _ _ _ h2]
theorem push1_n (s : LS) (a : Nat) : s.n ≤ (push1 s a).1.n ∧ (push1 s a).1.n ≤ s.n + 1 := by
  unfold push1; split
  · exact ⟨Int.le_refl _, by show s.n ≤ s.n + 1; omega⟩
  · split
    · exact ⟨by show s.n ≤ s.n + 1; omega, Int.le_refl _⟩
    · exact ⟨Int.le_refl _, by show s.n ≤ s.n + 1; omega⟩
theorem push1_len (s : LS) (a : Nat) : (push1 s a).1.L.length = s.L.length := by
  unfold push1; split
  · rfl
  · split
    · rename_i h; exact length_put8 h
    · rfl
theorem pushN_n : ∀ (l : List Nat) (s : LS), s.n ≤ (pushN s l).1.n ∧ (pushN s l).1.n ≤ s.n + l.length ∧ (pushN s l).1.L.length = s.L.length
  | [], s => ⟨Int.le_refl _, by show s.n ≤ s.n + (0 : Nat); omega, rfl⟩
  | a :: t, s => by
    have h1 := push1_n s a
    have h2 := push1_len s a
    have h3 := pushN_n t (push1 s a).1
    unfold pushN
    split
    · exact ⟨by omega, by rw [List.length_cons]; omega, h3.2.2.trans h2⟩
    · exact ⟨by omega, by rw [List.length_cons]; omega, h2⟩
theorem push1_h {s : LS} {a B : Nat} (hs : s.h ≤ B) (ha : a ≤ B) : (push1 s a).1.h ≤ B := by
  unfold push1; split
  · exact hs
  · split
    · exact ha
    · exact hs
theorem pushN_h {B : Nat} : ∀ (l : List Nat) (s : LS), s.h ≤ B → (∀ x ∈ l, x ≤ B) → (pushN s l).1.h ≤ B
  | [], s, hs, _ => hs
  | a :: t, s, hs, hl => by
    have h1 := push1_h hs (hl a (List.mem_cons_self ..))
    unfold pushN
    split
    · exact pushN_h t _ h1 (fun x hx => hl x (List.mem_cons_of_mem _ hx))
    · exact h1
/-- What hangs on h0, when k was come to over r. -/
theorem rowF_step {L : List Nat} {m h0 k : Nat} {r : List Nat} (h : rowF L m h0 = (rowF L (m - r.length) k).map (fun t => r ++ t)) (hk : k ≠ 0) (hr : r.length < m) (h8 : k + 8 ≤ L.length) : rowF L m h0 = (rowF L (m - (r ++ [k]).length) (linkAt L k)).map (fun t => (r ++ [k]) ++ t) := by
  rw [h, List.length_append, List.length_singleton]
  obtain ⟨d, hd⟩ : ∃ d, m - r.length = d + 1 := ⟨m - r.length - 1, by omega⟩
  rw [hd, show m - (r.length + 1) = d by omega]
  show (if k = 0 then _ else if k + 8 ≤ L.length then _ else _ : Option (List Nat)).map _ = _
  rw [if_neg hk, if_pos h8, Option.map_map]
  congr 1
  funext t
  simp
theorem rowF_done {L : List Nat} {m h0 : Nat} {r : List Nat} (h : rowF L m h0 = (rowF L (m - r.length) 0).map (fun t => r ++ t)) : rowF L m h0 = some r := by
  rw [h, rowF_zero]; simp
theorem rowF_over {L : List Nat} {m h0 k : Nat} {r : List Nat} (h : rowF L m h0 = (rowF L (m - r.length) k).map (fun t => r ++ t)) (hk : k ≠ 0) (hr : m ≤ r.length) : rowF L m h0 = none := by
  rw [h, show m - r.length = 0 by omega]; simp [rowF, hk]
theorem rowF_beyond {L : List Nat} {m h0 k : Nat} {r : List Nat} (h : rowF L m h0 = (rowF L (m - r.length) k).map (fun t => r ++ t)) (hk : k ≠ 0) (h8 : ¬ k + 8 ≤ L.length) : rowF L m h0 = none := by
  rw [h]
  cases hd : m - r.length with
  | zero => simp [rowF, hk]
  | succ d => simp [rowF, hk, h8]
theorem rowF_len {L : List Nat} {m h : Nat} {l : List Nat} (e : rowF L m h = some l) : l.length ≤ m := (chain_rowF e).2
end Go.Proofs.YtomepdgddpajoaaDoor.ListMath
