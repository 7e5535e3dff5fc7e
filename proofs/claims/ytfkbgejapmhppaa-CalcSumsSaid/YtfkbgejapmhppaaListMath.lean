/- Plain facts on lists of numbers for layer 1 (calc). No program is named here. -/
namespace Go.Proofs.Ytfkbgejapmhppaa.CalcMath

def sumN : List Nat → Nat
  | [] => 0
  | x :: r => x + sumN r
def prodN : List Nat → Nat
  | [] => 1
  | x :: r => x * prodN r
def mostN : List Nat → Nat
  | [] => 0
  | x :: r => r.foldl max x
def leastN : List Nat → Nat
  | [] => 0
  | x :: r => r.foldl min x

theorem sumN_append : ∀ (l r : List Nat), sumN (l ++ r) = sumN l + sumN r
  | [], r => by simp [sumN]
  | x :: l, r => by simp [sumN, sumN_append l r]; omega
theorem prodN_append : ∀ (l r : List Nat), prodN (l ++ r) = prodN l * prodN r
  | [], r => by simp [prodN]
  | x :: l, r => by simp [prodN, prodN_append l r, Nat.mul_assoc]

theorem take_snoc (l : List Nat) (k : Nat) (h : k < l.length) : l.take (k + 1) = l.take k ++ [l.getD k 0] := by
  rw [List.take_succ_eq_append_getElem h]
  simp [List.getD_eq_getElem?_getD, h]

theorem sumN_snoc (l : List Nat) (k : Nat) (h : k < l.length) : sumN (l.take (k + 1)) = sumN (l.take k) + l.getD k 0 := by
  rw [take_snoc l k h, sumN_append]; simp [sumN]
theorem prodN_snoc (l : List Nat) (k : Nat) (h : k < l.length) : prodN (l.take (k + 1)) = prodN (l.take k) * l.getD k 0 := by
  rw [take_snoc l k h, prodN_append]; simp [prodN]
theorem mostN_snoc (l : List Nat) (k : Nat) (h0 : 0 < k) (h : k < l.length) : mostN (l.take (k + 1)) = max (mostN (l.take k)) (l.getD k 0) := by
  rw [take_snoc l k h]
  cases l with
  | nil => simp at h
  | cons x r =>
    obtain ⟨k, rfl⟩ : ∃ j, k = j + 1 := ⟨k - 1, by omega⟩
    simp [mostN]
theorem leastN_snoc (l : List Nat) (k : Nat) (h0 : 0 < k) (h : k < l.length) : leastN (l.take (k + 1)) = min (leastN (l.take k)) (l.getD k 0) := by
  rw [take_snoc l k h]
  cases l with
  | nil => simp at h
  | cons x r =>
    obtain ⟨k, rfl⟩ : ∃ j, k = j + 1 := ⟨k - 1, by omega⟩
    simp [leastN]
theorem most_one (l : List Nat) (h : 0 < l.length) : mostN (l.take 1) = l.getD 0 0 := by
  cases l with
  | nil => simp at h
  | cons x r => simp [mostN]
theorem least_one (l : List Nat) (h : 0 < l.length) : leastN (l.take 1) = l.getD 0 0 := by
  cases l with
  | nil => simp at h
  | cons x r => simp [leastN]

theorem sumN_split (l : List Nat) (k : Nat) : sumN l = sumN (l.take k) + sumN (l.drop k) := by
  rw [← sumN_append, List.take_append_drop]
theorem prodN_split (l : List Nat) (k : Nat) : prodN l = prodN (l.take k) * prodN (l.drop k) := by
  rw [← prodN_append, List.take_append_drop]
theorem sumN_take_le (l : List Nat) (k : Nat) : sumN (l.take k) ≤ sumN l := by have := sumN_split l k; omega
theorem prodN_pos : ∀ (l : List Nat), 0 ∉ l → 0 < prodN l
  | [], _ => by simp [prodN]
  | x :: r, h => by
    simp at h
    simp only [prodN]
    exact Nat.mul_pos (by omega) (prodN_pos r h.2)
theorem prodN_zero : ∀ (l : List Nat), 0 ∈ l → prodN l = 0
  | [], h => by simp at h
  | x :: r, h => by
    simp only [List.mem_cons] at h
    simp only [prodN]
    rcases h with h | h
    · rw [← h]; simp
    · rw [prodN_zero r h]; simp
theorem prodN_take_le (l : List Nat) (k : Nat) (h : 0 ∉ l) : prodN (l.take k) ≤ prodN l := by
  rw [prodN_split l k]
  exact Nat.le_mul_of_pos_right _ (prodN_pos _ (fun h' => h (List.mem_of_mem_drop h')))

def sumV (l : List Nat) : Nat := if sumN l ≤ 1099511627776 then sumN l else 0
def sumE (l : List Nat) : Nat := if sumN l ≤ 1099511627776 then 0 else 3
def mulV (l : List Nat) : Nat := if prodN l ≤ 1099511627776 then prodN l else 0
def mulE (l : List Nat) : Nat := if prodN l ≤ 1099511627776 then 0 else 3

theorem mem_iff_getD (l : List Nat) (v : Nat) : v ∈ l ↔ ∃ j, j < l.length ∧ l.getD j 0 = v := by
  rw [List.mem_iff_getElem]
  constructor
  · rintro ⟨j, hj, e⟩; exact ⟨j, hj, by simp [List.getD_eq_getElem?_getD, hj, e]⟩
  · rintro ⟨j, hj, e⟩; exact ⟨j, hj, by simpa [List.getD_eq_getElem?_getD, hj] using e⟩

theorem getD_le (l : List Nat) (h : ∀ x, x ∈ l → x ≤ 18446744073709551615) (j : Nat) : l.getD j 0 ≤ 18446744073709551615 := by
  by_cases hj : j < l.length
  · exact h _ ((mem_iff_getD l _).2 ⟨j, hj, rfl⟩)
  · simp [List.getD_eq_getElem?_getD, List.getElem?_eq_none (Nat.le_of_not_lt hj)]

/-- The product is beyond just if the next factor is more than the quotient. -/
theorem mul_le_iff (p x : Nat) (hp : 0 < p) : p * x ≤ 1099511627776 ↔ x ≤ 1099511627776 / p := by
  rw [Nat.le_div_iff_mul_le hp, Nat.mul_comm]

theorem cast_div (p : Nat) : (1099511627776 : Int) / (p : Int) = ((1099511627776 / p : Nat) : Int) := by rw [Int.natCast_ediv]; rfl

theorem foldl_max_ge : ∀ (r : List Nat) (a : Nat), a ≤ r.foldl max a ∧ ∀ x, x ∈ r → x ≤ r.foldl max a
  | [], a => by simp
  | y :: r, a => by
    have h := foldl_max_ge r (max a y)
    simp only [List.foldl_cons, List.mem_cons]
    exact ⟨by omega, fun x hx => by rcases hx with rfl | hx; · omega
                                    · exact h.2 x hx⟩
theorem foldl_min_le : ∀ (r : List Nat) (a : Nat), r.foldl min a ≤ a ∧ ∀ x, x ∈ r → r.foldl min a ≤ x
  | [], a => by simp
  | y :: r, a => by
    have h := foldl_min_le r (min a y)
    simp only [List.foldl_cons, List.mem_cons]
    exact ⟨by omega, fun x hx => by rcases hx with rfl | hx; · omega
                                    · exact h.2 x hx⟩
theorem foldl_max_mem : ∀ (r : List Nat) (a : Nat), r.foldl max a = a ∨ r.foldl max a ∈ r
  | [], a => by simp
  | y :: r, a => by
    simp only [List.foldl_cons, List.mem_cons]
    rcases foldl_max_mem r (max a y) with h | h
    · by_cases hy : a ≤ y
      · right; left; omega
      · left; omega
    · right; right; exact h
theorem foldl_min_mem : ∀ (r : List Nat) (a : Nat), r.foldl min a = a ∨ r.foldl min a ∈ r
  | [], a => by simp
  | y :: r, a => by
    simp only [List.foldl_cons, List.mem_cons]
    rcases foldl_min_mem r (min a y) with h | h
    · by_cases hy : y ≤ a
      · right; left; omega
      · left; omega
    · right; right; exact h
theorem most_ge (l : List Nat) (x : Nat) (h : x ∈ l) : x ≤ mostN l := by
  cases l with
  | nil => simp at h
  | cons y r =>
    have f := foldl_max_ge r y
    simp only [List.mem_cons] at h
    rcases h with rfl | h
    · exact f.1
    · exact f.2 x h
theorem least_le (l : List Nat) (x : Nat) (h : x ∈ l) : leastN l ≤ x := by
  cases l with
  | nil => simp at h
  | cons y r =>
    have f := foldl_min_le r y
    simp only [List.mem_cons] at h
    rcases h with rfl | h
    · exact f.1
    · exact f.2 x h
theorem most_mem (l : List Nat) (h : 0 < l.length) : mostN l ∈ l := by
  cases l with
  | nil => simp at h
  | cons y r =>
    rcases foldl_max_mem r y with e | e
    · simp only [mostN]; rw [e]; exact List.mem_cons_self
    · exact List.mem_cons_of_mem _ e
theorem least_mem (l : List Nat) (h : 0 < l.length) : leastN l ∈ l := by
  cases l with
  | nil => simp at h
  | cons y r =>
    rcases foldl_min_mem r y with e | e
    · simp only [leastN]; rw [e]; exact List.mem_cons_self
    · exact List.mem_cons_of_mem _ e

end Go.Proofs.Ytfkbgejapmhppaa.CalcMath
