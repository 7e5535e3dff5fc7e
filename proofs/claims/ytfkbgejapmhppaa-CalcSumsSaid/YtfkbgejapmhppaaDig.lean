/- Numbers in digits by 10000, the lowest first: plain facts. No program is named here. -/
namespace Go.Proofs.Ytfkbgejapmhppaa.Dig

def val : List Nat → Nat
  | [] => 0
  | d :: r => d + 10000 * val r

def Small (l : List Nat) : Prop := ∀ d ∈ l, d ≤ 9999
def Norm (l : List Nat) : Prop := Small l ∧ (l.length = 0 ∨ l.getD (l.length - 1) 0 ≠ 0)

theorem pow_pos (k : Nat) : 0 < 10000 ^ k := Nat.pow_pos (by decide)

theorem val_append : ∀ (l r : List Nat), val (l ++ r) = val l + 10000 ^ l.length * val r
  | [], r => by simp [val]
  | d :: l, r => by
    simp only [List.cons_append, val, val_append l r, List.length_cons, Nat.pow_succ, Nat.mul_add]
    rw [Nat.mul_comm (10000 ^ l.length) 10000, Nat.mul_assoc]
    omega

theorem val_lt : ∀ (l : List Nat), Small l → val l < 10000 ^ l.length
  | [], _ => by simp [val]
  | d :: l, h => by
    have h1 := val_lt l (fun x hx => h x (List.mem_cons_of_mem _ hx))
    have h2 := h d List.mem_cons_self
    simp only [val, List.length_cons, Nat.pow_succ]
    omega

theorem val_replicate : ∀ n, val (List.replicate n 0) = 0
  | 0 => rfl
  | n + 1 => by simp [List.replicate_succ, val, val_replicate n]

theorem val_split (l : List Nat) (k : Nat) (h : k ≤ l.length) : val l = val (l.take k) + 10000 ^ k * val (l.drop k) := by
  have e := val_append (l.take k) (l.drop k)
  rw [List.take_append_drop, List.length_take, Nat.min_eq_left h] at e
  exact e

theorem drop_at (l : List Nat) (k : Nat) (h : k < l.length) : l.drop k = l.getD k 0 :: l.drop (k + 1) := by
  rw [List.drop_eq_getElem_cons h]
  simp [List.getD_eq_getElem?_getD, h]

theorem val_drop (l : List Nat) (k : Nat) (h : k < l.length) : val (l.drop k) = l.getD k 0 + 10000 * val (l.drop (k + 1)) := by
  rw [drop_at l k h]; rfl

theorem val_take_succ (l : List Nat) (k : Nat) (h : k < l.length) : val (l.take (k + 1)) = val (l.take k) + 10000 ^ k * l.getD k 0 := by
  have e : l.take (k + 1) = l.take k ++ [l.getD k 0] := by
    rw [List.take_succ_eq_append_getElem h]; simp [List.getD_eq_getElem?_getD, h]
  rw [e, val_append, List.length_take, Nat.min_eq_left (by omega)]
  simp [val]

theorem small_getD {l : List Nat} (h : Small l) (j : Nat) : l.getD j 0 ≤ 9999 := by
  by_cases hj : j < l.length
  · have : l.getD j 0 = l[j] := by simp [List.getD_eq_getElem?_getD, hj]
    rw [this]; exact h _ (List.getElem_mem hj)
  · simp [List.getD_eq_getElem?_getD, List.getElem?_eq_none (Nat.le_of_not_lt hj)]
theorem small_of {l : List Nat} (h : ∀ j, j < l.length → l.getD j 0 ≤ 9999) : Small l := by
  intro d hd
  obtain ⟨j, hj, rfl⟩ := List.getElem_of_mem hd
  have := h j hj
  simpa [List.getD_eq_getElem?_getD, hj] using this
theorem small_take {l : List Nat} (h : Small l) (k : Nat) : Small (l.take k) := fun d hd => h d (List.mem_of_mem_take hd)
theorem small_drop {l : List Nat} (h : Small l) (k : Nat) : Small (l.drop k) := fun d hd => h d (List.mem_of_mem_drop hd)

theorem norm_ge {l : List Nat} (h : Norm l) (hl : 0 < l.length) : 10000 ^ (l.length - 1) ≤ val l := by
  obtain ⟨_, h0 | h0⟩ := h
  · omega
  · rw [val_split l (l.length - 1) (by omega), val_drop l (l.length - 1) (by omega)]
    have : 10000 ^ (l.length - 1) * 1 ≤ 10000 ^ (l.length - 1) * (l.getD (l.length - 1) 0 + 10000 * val (l.drop (l.length - 1 + 1))) := Nat.mul_le_mul_left _ (by omega)
    omega

theorem norm_len {l : List Nat} (h : Norm l) (k : Nat) (hv : val l < 10000 ^ k) : l.length ≤ k := by
  by_cases hl : 0 < l.length
  · have h1 := norm_ge h hl
    have h2 : 10000 ^ (l.length - 1) < 10000 ^ k := by omega
    have := (Nat.pow_lt_pow_iff_right (a := 10000) (by decide)).1 h2
    omega
  · omega

theorem norm_zero {l : List Nat} (h : Norm l) (hv : val l = 0) : l = [] := by
  have := norm_len h 0 (by simpa using hv)
  exact List.length_eq_zero_iff.1 (by omega)

/-! ### Greater -/
theorem longer {A B : List Nat} (hA : Norm A) (hB : Norm B) (h : B.length < A.length) : val B < val A := by
  have h1 := norm_ge hA (by omega)
  have h2 := val_lt B hB.1
  have h3 : 10000 ^ B.length ≤ 10000 ^ (A.length - 1) := Nat.pow_le_pow_right (by decide) (by omega)
  omega

theorem at_digit {A B : List Nat} (hA : Small A) (i : Nat) (ha : i < A.length) (hb : i < B.length) (ht : val (A.drop (i + 1)) = val (B.drop (i + 1))) (h : A.getD i 0 < B.getD i 0) : val A < val B := by
  rw [val_split A i (by omega), val_split B i (by omega), val_drop A i ha, val_drop B i hb, ht]
  have h1 := val_lt (A.take i) (small_take hA i)
  rw [List.length_take, Nat.min_eq_left (by omega)] at h1
  have h2 : 10000 ^ i * (A.getD i 0 + 10000 * val (B.drop (i + 1)) + 1) ≤ 10000 ^ i * (B.getD i 0 + 10000 * val (B.drop (i + 1))) := Nat.mul_le_mul_left _ (by omega)
  rw [Nat.mul_add _ _ 1] at h2
  omega

/-! ### One place put anew -/
theorem getD_set (l : List Nat) (p j x : Nat) (hp : p < l.length) : (l.set p x).getD j 0 = if j = p then x else l.getD j 0 := by
  simp only [List.getD_eq_getElem?_getD, List.getElem?_set]
  by_cases h : p = j
  · subst h; simp [hp]
  · rw [if_neg h, if_neg (fun e => h e.symm)]

theorem val_set : ∀ (l : List Nat) (p x : Nat), p < l.length → val (l.set p x) + 10000 ^ p * l.getD p 0 = val l + 10000 ^ p * x
  | [], p, x, h => by simp at h
  | d :: l, 0, x, _ => by simp [val]; omega
  | d :: l, p + 1, x, h => by
    have ih := val_set l p x (by simpa using h)
    simp only [List.set_cons_succ, val, List.getD_cons_succ, Nat.pow_succ]
    rw [Nat.mul_comm (10000 ^ p) 10000, Nat.mul_assoc, Nat.mul_assoc]
    omega

theorem set_same (l : List Nat) (p x : Nat) (h : l.getD p 0 = x) : l.set p x = l := by
  apply List.ext_getElem?
  intro j
  rw [List.getElem?_set]
  split
  · rename_i e
    subst e
    split
    · rename_i hp; simp [List.getD_eq_getElem?_getD, hp] at h; simp [hp, h]
    · rename_i hp; simp [Nat.le_of_not_lt hp]
  · rfl

/-! ### One step of a sum -/
structure Adding (A B L : List Nat) (n i : Nat) : Prop where
  len : L.length = n + 1
  sum : val L + 10000 ^ i * val (B.drop i) = val A + val B
  low : ∀ j, j < i → L.getD j 0 ≤ 9999
  here : L.getD i 0 ≤ 10000
  high : ∀ j, i < j → L.getD j 0 ≤ 9999
  last : L.getD n 0 ≤ 1
  none : i < n → L.getD n 0 = 0

theorem adding_start {A B : List Nat} (hA : Small A) {n : Nat} (ha : A.length ≤ n) : Adding A B (A ++ List.replicate (n + 1 - A.length) 0) n 0 := by
  have hs : Small (A ++ List.replicate (n + 1 - A.length) 0) := by
    intro d hd
    rcases List.mem_append.1 hd with h | h
    · exact hA d h
    · obtain ⟨_, rfl⟩ := List.mem_replicate.1 h; omega
  have hz : (A ++ List.replicate (n + 1 - A.length) 0).getD n 0 = 0 := by
    rw [List.getD_eq_getElem?_getD, List.getElem?_append_right ha, List.getElem?_replicate]
    split <;> rfl
  refine ⟨by simp; omega, ?_, fun j hj => absurd hj (by omega), ?_, fun j _ => small_getD hs j, by rw [hz]; omega, fun _ => hz⟩
  · rw [val_append, val_replicate]; simp
  · have := small_getD hs 0; omega

theorem adding_end {A B L : List Nat} {n : Nat} (h : Adding A B L n (n + 1)) (hb : B.length ≤ n) : Small L ∧ val L = val A + val B := by
  refine ⟨small_of (fun j hj => h.low j (by rw [h.len] at hj; omega)), ?_⟩
  have := h.sum
  rw [List.drop_eq_nil_of_le (by omega)] at this
  simpa [val] using this

/-- The digit with what is added, whether or not there is one. -/
def Added (B L : List Nat) (i : Nat) : List Nat := if i < B.length then L.set i (L.getD i 0 + B.getD i 0) else L

theorem added_len (B L : List Nat) (i : Nat) : (Added B L i).length = L.length := by unfold Added; split <;> simp

theorem adding_mid {A B L : List Nat} {n i : Nat} (h : Adding A B L n i) (hB : Small B) (hb : B.length ≤ n) (hi : i < n + 1) :
    val (Added B L i) + 10000 ^ (i + 1) * val (B.drop (i + 1)) = val A + val B ∧ (Added B L i).getD i 0 ≤ 19999 ∧ (∀ j, j ≠ i → (Added B L i).getD j 0 = L.getD j 0) ∧ (n ≤ i → (Added B L i).getD i 0 ≤ 1) := by
  have hl := h.len
  unfold Added
  by_cases hlt : i < B.length
  · rw [if_pos hlt]
    have e := val_set L i (L.getD i 0 + B.getD i 0) (by omega)
    have s := h.sum
    have hh := h.here
    have hb9 := small_getD hB i
    rw [val_drop B i hlt, Nat.mul_add] at s
    rw [Nat.mul_add] at e
    refine ⟨?_, ?_, fun j hj => ?_, fun hn => by omega⟩
    · rw [Nat.pow_succ, Nat.mul_assoc]
      omega
    · rw [getD_set L i i _ (by omega), if_pos rfl]; omega
    · rw [getD_set L i j _ (by omega), if_neg hj]
  · rw [if_neg hlt]
    have s := h.sum
    have hh := h.here
    rw [List.drop_eq_nil_of_le (by omega)] at s
    rw [List.drop_eq_nil_of_le (by omega)]
    refine ⟨by simpa [val] using s, by omega, fun _ _ => rfl, fun hn => ?_⟩
    have : i = n := by omega
    rw [this]; exact h.last

theorem adding_keep {A B L : List Nat} {n i : Nat} (h : Adding A B L n i) (hB : Small B) (hb : B.length ≤ n) (hi : i < n + 1) (hd : (Added B L i).getD i 0 < 10000) : Adding A B (Added B L i) n (i + 1) := by
  obtain ⟨m1, _, m3, _⟩ := adding_mid h hB hb hi
  refine ⟨(added_len B L i).trans h.len, m1, fun j hj => ?_, ?_, fun j hj => ?_, ?_, fun hn => ?_⟩
  · by_cases e : j = i
    · subst e; omega
    · rw [m3 j e]; exact h.low j (by omega)
  · rw [m3 (i + 1) (by omega)]; have := h.high (i + 1) (by omega); omega
  · rw [m3 j (by omega)]; exact h.high j (by omega)
  · by_cases e : n = i
    · have := (adding_mid h hB hb hi).2.2.2 (by omega); rw [e]; exact this
    · rw [m3 n e]; exact h.last
  · rw [m3 n (by omega)]; exact h.none (by omega)

theorem adding_carry {A B L : List Nat} {n i : Nat} (h : Adding A B L n i) (hB : Small B) (hb : B.length ≤ n) (hi : i < n + 1) (hd : 10000 ≤ (Added B L i).getD i 0) :
    i < n ∧ Adding A B (((Added B L i).set i ((Added B L i).getD i 0 - 10000)).set (i + 1) ((Added B L i).getD (i + 1) 0 + 1)) n (i + 1) := by
  obtain ⟨m1, m2, m3, m4⟩ := adding_mid h hB hb hi
  have hin : i < n := by
    apply Nat.lt_of_not_le
    intro hn
    have := m4 hn
    omega
  have hl := (added_len B L i).trans h.len
  have hn1 : n < (Added B L i).length := by omega
  generalize Added B L i = M at *
  have e1 := val_set M i (M.getD i 0 - 10000) (by omega)
  have e2 := val_set (M.set i (M.getD i 0 - 10000)) (i + 1) (M.getD (i + 1) 0 + 1) (by simp; omega)
  rw [getD_set M i (i + 1) _ (by omega), if_neg (by omega)] at e2
  have hg : ∀ j, ((M.set i (M.getD i 0 - 10000)).set (i + 1) (M.getD (i + 1) 0 + 1)).getD j 0 = if j = i + 1 then M.getD (i + 1) 0 + 1 else if j = i then M.getD i 0 - 10000 else M.getD j 0 := by
    intro j
    rw [getD_set _ (i + 1) j _ (by simp; omega)]
    split
    · rfl
    · rw [getD_set M i j _ (by omega)]
  refine ⟨hin, by simp [hl], ?_, fun j hj => ?_, ?_, fun j hj => ?_, ?_, fun hn => ?_⟩
  · have p : 10000 ^ i * (M.getD i 0 - 10000) + 10000 ^ i * 10000 = 10000 ^ i * M.getD i 0 := by rw [← Nat.mul_add, Nat.sub_add_cancel hd]
    rw [Nat.mul_add, Nat.pow_succ, Nat.mul_one] at e2
    rw [Nat.pow_succ] at m1 ⊢
    omega
  · rw [hg]
    split
    · omega
    · split
      · omega
      · rename_i h1 h2; rw [m3 j h2]; exact h.low j (by omega)
  · rw [hg, if_pos rfl, m3 (i + 1) (by omega)]; have := h.high (i + 1) (by omega); omega
  · rw [hg, if_neg (by omega), if_neg (by omega), m3 j (by omega)]; exact h.high j (by omega)
  · rw [hg]
    split
    · rename_i e
      have := h.none (by omega)
      rw [← e, m3 n (by omega), this]
      omega
    · rw [if_neg (by omega), m3 n (by omega)]; exact h.last
  · rw [hg, if_neg (by omega), if_neg (by omega), m3 n (by omega)]; exact h.none (by omega)

/-- The four ways of a round, in the places' own numbers. -/
theorem plus_carry {A B L : List Nat} {n k x y z : Nat} (h : Adding A B L n k) (hB : Small B) (hb : B.length ≤ n) (hk : k < n + 1) (hkb : k < B.length) (hx : L.getD k 0 = x) (hy : B.getD k 0 = y) (hz : L.getD (k + 1) 0 = z) (hbig : 10000 ≤ x + y) :
    k < n ∧ Adding A B (((L.set k (x + y)).set k (x + y - 10000)).set (k + 1) (z + 1)) n (k + 1) := by
  have e : Added B L k = L.set k (x + y) := by unfold Added; rw [if_pos hkb, hx, hy]
  have hl := h.len
  have g1 : (L.set k (x + y)).getD k 0 = x + y := by rw [getD_set L k k _ (by omega), if_pos rfl]
  have g2 : (L.set k (x + y)).getD (k + 1) 0 = z := by rw [getD_set L k (k + 1) _ (by omega), if_neg (by omega), hz]
  have c := adding_carry h hB hb hk (by rw [e, g1]; exact hbig)
  rwa [e, g1, g2] at c
theorem plus_keep {A B L : List Nat} {n k x y : Nat} (h : Adding A B L n k) (hB : Small B) (hb : B.length ≤ n) (hk : k < n + 1) (hkb : k < B.length) (hx : L.getD k 0 = x) (hy : B.getD k 0 = y) (hbig : x + y < 10000) :
    Adding A B (L.set k (x + y)) n (k + 1) := by
  have e : Added B L k = L.set k (x + y) := by unfold Added; rw [if_pos hkb, hx, hy]
  have hl := h.len
  have g1 : (L.set k (x + y)).getD k 0 = x + y := by rw [getD_set L k k _ (by omega), if_pos rfl]
  have c := adding_keep h hB hb hk (by rw [e, g1]; exact hbig)
  rwa [e] at c
theorem bare_carry {A B L : List Nat} {n k x z : Nat} (h : Adding A B L n k) (hB : Small B) (hb : B.length ≤ n) (hk : k < n + 1) (hkb : ¬ k < B.length) (hx : L.getD k 0 = x) (hz : L.getD (k + 1) 0 = z) (hbig : 10000 ≤ x) :
    k < n ∧ Adding A B ((L.set k (x - 10000)).set (k + 1) (z + 1)) n (k + 1) := by
  have e : Added B L k = L := by unfold Added; rw [if_neg hkb]
  have c := adding_carry h hB hb hk (by rw [e, hx]; exact hbig)
  rwa [e, hx, hz] at c
theorem bare_keep {A B L : List Nat} {n k x : Nat} (h : Adding A B L n k) (hB : Small B) (hb : B.length ≤ n) (hk : k < n + 1) (hkb : ¬ k < B.length) (hx : L.getD k 0 = x) (hbig : x < 10000) :
    Adding A B L n (k + 1) := by
  have e : Added B L k = L := by unfold Added; rw [if_neg hkb]
  have c := adding_keep h hB hb hk (by rw [e, hx]; exact hbig)
  rwa [e] at c

/-! ### One step of a product -/
/-- The three stores of one step. -/
def Stepped (L : List Nat) (p ab : Nat) : List Nat := ((L.set p (L.getD p 0 + ab)).set (p + 1) (L.getD (p + 1) 0 + (L.getD p 0 + ab) / 10000)).set p ((L.getD p 0 + ab) % 10000)

theorem stepped_len (L : List Nat) (p ab : Nat) : (Stepped L p ab).length = L.length := by simp [Stepped]

theorem stepped_getD (L : List Nat) (p ab j : Nat) (hp : p + 1 < L.length) : (Stepped L p ab).getD j 0 = if j = p then (L.getD p 0 + ab) % 10000 else if j = p + 1 then L.getD (p + 1) 0 + (L.getD p 0 + ab) / 10000 else L.getD j 0 := by
  unfold Stepped
  rw [getD_set _ p j _ (by simp; omega)]
  split
  · rfl
  · rw [getD_set _ (p + 1) j _ (by simp; omega)]
    split
    · rfl
    · rename_i h _
      rw [getD_set L p j _ (by omega), if_neg h]

theorem stepped_val (L : List Nat) (p ab : Nat) (hp : p + 1 < L.length) : val (Stepped L p ab) = val L + 10000 ^ p * ab := by
  unfold Stepped
  have e1 := val_set L p (L.getD p 0 + ab) (by omega)
  have e2 := val_set (L.set p (L.getD p 0 + ab)) (p + 1) (L.getD (p + 1) 0 + (L.getD p 0 + ab) / 10000) (by simp; omega)
  have e3 := val_set ((L.set p (L.getD p 0 + ab)).set (p + 1) (L.getD (p + 1) 0 + (L.getD p 0 + ab) / 10000)) p ((L.getD p 0 + ab) % 10000) (by simp; omega)
  rw [getD_set L p (p + 1) _ (by omega), if_neg (by omega)] at e2
  rw [getD_set _ (p + 1) p _ (by simp; omega), if_neg (by omega), getD_set L p p _ (by omega), if_pos rfl] at e3
  have hs : 10000 ^ p * (L.getD p 0 + ab) = 10000 ^ p * 10000 * ((L.getD p 0 + ab) / 10000) + 10000 ^ p * ((L.getD p 0 + ab) % 10000) := by
    rw [Nat.mul_assoc, ← Nat.mul_add, Nat.div_add_mod]
  rw [Nat.pow_succ, Nat.mul_add] at e2
  rw [Nat.mul_add] at e1
  rw [Nat.mul_add] at hs e3
  omega

structure Rowing (A B L : List Nat) (i k : Nat) : Prop where
  len : L.length = A.length + B.length + 1
  prod : val L = val (A.take i) * val B + 10000 ^ i * (A.getD i 0 * val (B.take k))
  others : ∀ j, j ≠ i + k → L.getD j 0 ≤ 9999
  hot : L.getD (i + k) 0 ≤ 19998
  cold : k = 0 ∨ k = B.length → L.getD (i + k) 0 ≤ 9999
  zero : ∀ j, i + B.length < j → L.getD j 0 = 0
  edge : k < B.length → L.getD (i + B.length) 0 = 0

theorem rowing_next {A B L : List Nat} {i k : Nat} (h : Rowing A B L i k) (hA : Small A) (hB : Small B) (hi : i < A.length) (hk : k < B.length) :
    Rowing A B (Stepped L (i + k) (A.getD i 0 * B.getD k 0)) i (k + 1) := by
  have hl := h.len
  have ha := small_getD hA i
  have hb := small_getD hB k
  have hab : A.getD i 0 * B.getD k 0 ≤ 9999 * 9999 := Nat.mul_le_mul ha hb
  have hot := h.hot
  have hq : (L.getD (i + k) 0 + A.getD i 0 * B.getD k 0) / 10000 ≤ 9999 := by omega
  have hg := fun j => stepped_getD L (i + k) (A.getD i 0 * B.getD k 0) j (by omega)
  refine ⟨by rw [stepped_len]; exact hl, ?_, fun j hj => ?_, ?_, fun he => ?_, fun j hj => ?_, fun hk1 => ?_⟩
  · rw [stepped_val _ _ _ (by omega), h.prod, val_take_succ B k hk, Nat.mul_add, Nat.mul_add, Nat.pow_add]
    have e : 10000 ^ i * (A.getD i 0 * (10000 ^ k * B.getD k 0)) = 10000 ^ i * 10000 ^ k * (A.getD i 0 * B.getD k 0) := by
      rw [Nat.mul_assoc, Nat.mul_left_comm (A.getD i 0)]
    rw [e]; omega
  · rw [hg]
    split
    · omega
    · rw [if_neg (by omega)]; rename_i h1; exact h.others j h1
  · rw [show i + (k + 1) = i + k + 1 by omega, hg, if_neg (by omega), if_pos rfl]
    have := h.others (i + k + 1) (by omega)
    omega
  · rw [show i + (k + 1) = i + k + 1 by omega, hg, if_neg (by omega), if_pos rfl]
    rcases he with he | he
    · omega
    · have := h.edge hk
      rw [show i + k + 1 = i + B.length by omega, this]
      omega
  · rw [hg, if_neg (by omega), if_neg (by omega)]; exact h.zero j hj
  · rw [hg, if_neg (by omega), if_neg (by omega)]; exact h.edge hk

/-- Between two rows. -/
structure Rows (A B L : List Nat) (i : Nat) : Prop where
  len : L.length = A.length + B.length + 1
  prod : val L = val (A.take i) * val B
  small : ∀ j, L.getD j 0 ≤ 9999
  zero : ∀ j, i + B.length ≤ j → L.getD j 0 = 0

theorem rows_start (A B : List Nat) : Rows A B (List.replicate (A.length + B.length + 1) 0) 0 := by
  have z : ∀ j, (List.replicate (A.length + B.length + 1) 0).getD j 0 = 0 := by
    intro j
    rw [List.getD_eq_getElem?_getD, List.getElem?_replicate]
    split <;> rfl
  exact ⟨by simp, by rw [val_replicate]; simp [val], fun j => by rw [z]; omega, fun j _ => z j⟩

theorem rows_in {A B L : List Nat} {i : Nat} (h : Rows A B L i) : Rowing A B L i 0 :=
  ⟨h.len, by rw [h.prod]; simp [val], fun j _ => h.small j, by have := h.small (i + 0); omega, fun _ => h.small _, fun j hj => h.zero j (by omega), fun _ => h.zero _ (Nat.le_refl _)⟩

theorem rows_out {A B L : List Nat} {i : Nat} (h : Rowing A B L i B.length) (hi : i < A.length) : Rows A B L (i + 1) := by
  refine ⟨h.len, ?_, fun j => ?_, fun j hj => h.zero j (by omega)⟩
  · rw [h.prod, val_take_succ A i hi, List.take_length, Nat.add_mul, Nat.mul_assoc]
  · by_cases e : j = i + B.length
    · subst e; exact h.cold (.inr rfl)
    · exact h.others j e

theorem rows_end {A B L : List Nat} (h : Rows A B L A.length) : Small L ∧ val L = val A * val B := by
  refine ⟨small_of (fun j _ => h.small j), ?_⟩
  have := h.prod
  rwa [List.take_length] at this

/-! ### Noughts at the end -/
theorem trim_step {L : List Nat} {k : Nat} (hk : 0 < k) (hl : k ≤ L.length) (h0 : L.getD (k - 1) 0 = 0) : val (L.take (k - 1)) = val (L.take k) := by
  have := val_take_succ L (k - 1) (by omega)
  rw [show k - 1 + 1 = k by omega, h0] at this
  omega
theorem trim_done {L : List Nat} {k : Nat} (hs : Small L) (hl : k ≤ L.length) (h : k = 0 ∨ L.getD (k - 1) 0 ≠ 0) : Norm (L.take k) := by
  refine ⟨small_take hs k, ?_⟩
  have hlen : (L.take k).length = k := by simp; omega
  rw [hlen]
  rcases h with h | h
  · exact .inl h
  · by_cases hk : k = 0
    · exact .inl hk
    · right
      have : (L.take k).getD (k - 1) 0 = L.getD (k - 1) 0 := by
        simp [List.getD_eq_getElem?_getD, List.getElem?_take_of_lt (show k - 1 < k by omega)]
      rw [this]; exact h

end Go.Proofs.Ytfkbgejapmhppaa.Dig
