/- Plain lists of bytes: numbers in bytes (the lowest first), rows laid over rows, patterns. No program is named here. -/
import Derived.Laws.CopyOwn
namespace Go.Proofs.Ytclmdjkihijciaa.MemMath

/-- The number of some bytes, the lowest first. -/
def val : List Nat → Nat
  | [] => 0
  | c :: t => c + 256 * val t

/-- The n lowest bytes of a number. -/
def le : Nat → Nat → List Nat
  | 0, _ => []
  | n + 1, x => x % 256 :: le n (x / 256)

/-- n times the same byte: behind a name of its own, so that simp lets it stand. -/
def rep (n c : Nat) : List Nat := List.replicate n c
theorem length_rep (n c : Nat) : (rep n c).length = n := List.length_replicate
theorem getD_rep {n c i : Nat} (h : i < n) : (rep n c).getD i 0 = c := by
  simp [rep, List.getD_eq_getElem?_getD, h]

def Byt (l : List Nat) : Prop := ∀ x ∈ l, x < 256

theorem Byt.of {l : List Nat} (h : l.all (fun x => decide (x < 256)) = true) : Byt l := fun x hx => by simpa using List.all_eq_true.1 h x hx
theorem Byt.nil : Byt [] := fun x h => by simp at h
theorem Byt.cons {c : Nat} {l : List Nat} (hc : c < 256) (h : Byt l) : Byt (c :: l) := by
  intro x hx
  rcases List.mem_cons.1 hx with rfl | hx
  · exact hc
  · exact h x hx
theorem Byt.append {l m : List Nat} (h : Byt l) (k : Byt m) : Byt (l ++ m) := by
  intro x hx
  rcases List.mem_append.1 hx with hx | hx
  · exact h x hx
  · exact k x hx
theorem Byt.take {l : List Nat} (h : Byt l) (n : Nat) : Byt (l.take n) := fun x hx => h x (List.mem_of_mem_take hx)
theorem Byt.drop {l : List Nat} (h : Byt l) (n : Nat) : Byt (l.drop n) := fun x hx => h x (List.mem_of_mem_drop hx)
theorem Byt.splice {l m : List Nat} (h : Byt l) (k : Byt m) (o : Nat) : Byt (splice l o m) := (h.take o).append (k.append (h.drop _))
theorem Byt.replicate {n c : Nat} (hc : c < 256) : Byt (List.replicate n c) := fun x hx => by rw [List.eq_of_mem_replicate hx]; exact hc
theorem byt_rep {n c : Nat} (hc : c < 256) : Byt (rep n c) := Byt.replicate hc
theorem Byt.getD {l : List Nat} (h : Byt l) (i : Nat) : l.getD i 0 < 256 := by
  rw [List.getD_eq_getElem?_getD]
  cases e : l[i]? with
  | none => simp
  | some x => exact h x (List.mem_of_getElem? e)

theorem length_le : ∀ (n x : Nat), (le n x).length = n
  | 0, _ => rfl
  | n + 1, x => by simp [le, length_le n]
theorem byt_le : ∀ (n x : Nat), Byt (le n x)
  | 0, _ => Byt.nil
  | n + 1, x => Byt.cons (Nat.mod_lt _ (by decide)) (byt_le n _)
theorem val_le : ∀ (n x : Nat), val (le n x) = x % 256 ^ n
  | 0, x => by simp [le, val]; omega
  | n + 1, x => by
    simp only [le, val]
    rw [val_le n (x / 256), Nat.pow_succ, Nat.mul_comm (256 ^ n) 256, Nat.mod_mul]
theorem val_lt : ∀ {l : List Nat}, Byt l → val l < 256 ^ l.length
  | [], _ => by simp [val]
  | c :: t, h => by
    have h1 := h c (by simp)
    have h2 := val_lt (l := t) (fun x hx => h x (by simp [hx]))
    simp only [val, List.length_cons, Nat.pow_succ]
    omega
theorem le_val : ∀ {l : List Nat}, Byt l → le l.length (val l) = l
  | [], _ => rfl
  | c :: t, h => by
    have h1 := h c (by simp)
    have h2 := le_val (l := t) (fun x hx => h x (by simp [hx]))
    simp only [val, List.length_cons, le]
    rw [show (c + 256 * val t) % 256 = c by omega, show (c + 256 * val t) / 256 = val t by omega, h2]
theorem val_append : ∀ (l m : List Nat), val (l ++ m) = val l + 256 ^ l.length * val m
  | [], m => by simp [val]
  | c :: t, m => by
    simp only [List.cons_append, val, List.length_cons, Nat.pow_succ]
    rw [val_append t m, Nat.mul_add, Nat.add_assoc, Nat.mul_comm (256 ^ t.length) 256, Nat.mul_assoc]
theorem take_succ_getD {l : List Nat} {i : Nat} (h : i < l.length) : l.take (i + 1) = l.take i ++ [l.getD i 0] := by
  rw [List.take_succ_eq_append_getElem h]
  simp [List.getD_eq_getElem?_getD, h]
theorem val_take_succ {l : List Nat} {i : Nat} (h : i < l.length) : val (l.take (i + 1)) = val (l.take i) + 256 ^ i * l.getD i 0 := by
  rw [take_succ_getD h, val_append]
  have : (l.take i).length = i := by simp; omega
  simp only [this, val, Nat.mul_zero, Nat.add_zero]
theorem take_le : ∀ (k n x : Nat), k ≤ n → (le n x).take k = le k x
  | 0, n, x, _ => by simp [le]
  | k + 1, 0, x, h => by omega
  | k + 1, n + 1, x, h => by simp only [le, List.take_succ_cons]; rw [take_le k n _ (by omega)]
theorem getD_le : ∀ (n i x : Nat), i < n → (le n x).getD i 0 = x / 256 ^ i % 256
  | 0, i, x, h => by omega
  | n + 1, 0, x, _ => by simp [le]
  | n + 1, i + 1, x, h => by
    have := getD_le n i (x / 256) (by omega)
    simp only [le, List.getD_cons_succ]
    rw [this, Nat.div_div_eq_div_mul, Nat.pow_succ, Nat.mul_comm]
theorem le_succ (n x : Nat) : le (n + 1) x = le n x ++ [x / 256 ^ n % 256] := by
  have h := take_succ_getD (l := le (n + 1) x) (i := n) (by rw [length_le]; omega)
  rw [List.take_of_length_le (by rw [length_le]; omega), take_le n (n + 1) x (by omega), getD_le (n + 1) n x (by omega)] at h
  exact h

/-! ### A row laid over a row -/
theorem length_splice' {L cs : List Nat} {o : Nat} (h : o + cs.length ≤ L.length) : (splice L o cs).length = L.length := length_splice L o cs h
theorem splice_nil (L : List Nat) (o : Nat) : splice L o [] = L := by simp [splice]
theorem getD_splice {L cs : List Nat} {o : Nat} (h : o + cs.length ≤ L.length) (i : Nat) :
    (splice L o cs).getD i 0 = if o ≤ i ∧ i < o + cs.length then cs.getD (i - o) 0 else L.getD i 0 := by
  unfold splice
  simp only [List.getD_eq_getElem?_getD]
  by_cases h1 : i < o
  · rw [if_neg (by omega), List.getElem?_append_left (by simp; omega), List.getElem?_take_of_lt h1]
  · rw [List.getElem?_append_right (by simp; omega)]
    have hl : (L.take o).length = o := by simp; omega
    rw [hl]
    by_cases h2 : i < o + cs.length
    · rw [if_pos (by omega), List.getElem?_append_left (by omega)]
    · rw [if_neg (by omega), List.getElem?_append_right (by omega), List.getElem?_drop, show o + cs.length + (i - o - cs.length) = i by omega]
theorem ext_getD {L M : List Nat} (hl : L.length = M.length) (h : ∀ i, i < L.length → L.getD i 0 = M.getD i 0) : L = M := by
  apply List.ext_getElem hl
  intro i h1 h2
  have := h i h1
  simpa [List.getD_eq_getElem?_getD, h1, h2] using this
/-- The n bytes at a place. -/
def part (L : List Nat) (o n : Nat) : List Nat := (L.drop o).take n
theorem length_part {L : List Nat} {o n : Nat} (h : o + n ≤ L.length) : (part L o n).length = n := by simp [part]; omega
theorem getD_part {L : List Nat} {o n i : Nat} (hi : i < n) : (part L o n).getD i 0 = L.getD (o + i) 0 := by
  simp [part, List.getD_eq_getElem?_getD, List.getElem?_take_of_lt hi, List.getElem?_drop]
theorem Byt.part {l : List Nat} (h : Byt l) (o n : Nat) : Byt (part l o n) := (h.drop o).take n
theorem part_all (L : List Nat) : part L 0 L.length = L := by simp [part]
theorem part_splice {L cs : List Nat} {o : Nat} (h : o + cs.length ≤ L.length) : part (splice L o cs) o cs.length = cs := by
  apply ext_getD
  · rw [length_part (by rw [length_splice' h]; exact h)]
  · intro i hi
    rw [length_part (by rw [length_splice' h]; exact h)] at hi
    rw [getD_part hi, getD_splice h, if_pos (by omega)]
    congr 1; omega
theorem part_splice_in {L cs : List Nat} {o p n : Nat} (h : o + cs.length ≤ L.length) (h1 : o ≤ p) (h2 : p + n ≤ o + cs.length) : part (splice L o cs) p n = part cs (p - o) n := by
  apply ext_getD
  · rw [length_part (by rw [length_splice' h]; omega), length_part (by omega)]
  · intro i hi
    rw [length_part (by rw [length_splice' h]; omega)] at hi
    rw [getD_part hi, getD_splice h, if_pos (by omega), getD_part hi]
    congr 1; omega
theorem part_splice_out {L cs : List Nat} {o p n : Nat} (h : o + cs.length ≤ L.length) (h1 : p + n ≤ o ∨ o + cs.length ≤ p) (hp : p + n ≤ L.length) : part (splice L o cs) p n = part L p n := by
  apply ext_getD
  · rw [length_part (by rw [length_splice' h]; omega), length_part hp]
  · intro i hi
    rw [length_part (by rw [length_splice' h]; omega)] at hi
    rw [getD_part hi, getD_splice h, if_neg (by omega), getD_part hi]
theorem part_le_take {n k x : Nat} (h : k ≤ n) : part (le n x) 0 k = le k x := by simp [part, take_le k n x h]
theorem part_one {L : List Nat} {o : Nat} (h : o < L.length) : part L o 1 = [L.getD o 0] := by
  apply ext_getD
  · rw [length_part (by omega)]; rfl
  · intro i hi
    rw [length_part (by omega)] at hi
    rw [getD_part hi]
    obtain rfl : i = 0 := by omega
    simp
theorem part_rep {m o n c : Nat} (h : o + n ≤ m) : part (rep m c) o n = rep n c := by
  unfold part rep
  rw [List.drop_replicate, List.take_replicate]
  congr 1; omega
theorem splice_append {L a b : List Nat} {o : Nat} (h : o + (a ++ b).length ≤ L.length) : splice (splice L o a) (o + a.length) b = splice L o (a ++ b) := by
  have hl : o + a.length ≤ L.length := by simp at h; omega
  simp only [List.length_append] at h
  apply ext_getD
  · rw [length_splice' (by rw [length_splice' hl]; omega), length_splice' hl, length_splice' (by simp; omega)]
  · intro i hi
    rw [length_splice' (by rw [length_splice' hl]; omega), length_splice' hl] at hi
    rw [getD_splice (by rw [length_splice' hl]; omega), getD_splice hl, getD_splice (by simp; omega)]
    simp only [List.length_append]
    by_cases c1 : o + a.length ≤ i ∧ i < o + a.length + b.length
    · rw [if_pos c1, if_pos (by omega)]
      simp only [List.getD_eq_getElem?_getD]
      rw [List.getElem?_append_right (by omega)]
      congr 2; omega
    · rw [if_neg c1]
      by_cases c2 : o ≤ i ∧ i < o + a.length
      · rw [if_pos c2, if_pos (by omega)]
        simp only [List.getD_eq_getElem?_getD]
        rw [List.getElem?_append_left (by omega)]
      · rw [if_neg c2, if_neg (by omega)]

theorem splice_same {L cs : List Nat} {o : Nat} (h : o + cs.length ≤ L.length) (hs : part L o cs.length = cs) : splice L o cs = L := by
  apply ext_getD (length_splice' h)
  intro i hi
  rw [getD_splice h]
  by_cases c : o ≤ i ∧ i < o + cs.length
  · rw [if_pos c, ← hs, getD_part (by omega)]; congr 1; omega
  · rw [if_neg c]

/-- A word of 8 bytes, stored. -/
def put8 (L : List Nat) (a x : Nat) : List Nat := splice L a (le 8 x)
theorem length_put8 {L : List Nat} {a x : Nat} (h : a + 8 ≤ L.length) : (put8 L a x).length = L.length := length_splice' (by rw [length_le]; exact h)
theorem part_put8 {L : List Nat} {a x : Nat} (h : a + 8 ≤ L.length) : part (put8 L a x) a 8 = le 8 x := by
  have := part_splice (L := L) (cs := le 8 x) (o := a) (by rw [length_le]; exact h)
  rwa [length_le] at this
theorem val_put8 {L : List Nat} {a x : Nat} (h : a + 8 ≤ L.length) (hx : x ≤ 18446744073709551615) : val (part (put8 L a x) a 8) = x := by
  rw [part_put8 h, val_le]
  exact Nat.mod_eq_of_lt (by omega)
theorem part_put8_out {L : List Nat} {a x p n : Nat} (h : a + 8 ≤ L.length) (h1 : p + n ≤ a ∨ a + 8 ≤ p) (hp : p + n ≤ L.length) : part (put8 L a x) p n = part L p n :=
  part_splice_out (by rw [length_le]; exact h) (by rw [length_le]; exact h1) hp
theorem byt_put8 {L : List Nat} (h : Byt L) (a x : Nat) : Byt (put8 L a x) := h.splice (byt_le _ _) _

/-! ### Patterns -/
def fill (n : Nat) (p : List Nat) : List Nat := (List.range n).map fun i => p.getD (i % p.length) 0
theorem length_fill (n : Nat) (p : List Nat) : (fill n p).length = n := by simp [fill]
theorem getD_fill {n i : Nat} (p : List Nat) (h : i < n) : (fill n p).getD i 0 = p.getD (i % p.length) 0 := by
  simp [fill, List.getD_eq_getElem?_getD, h]
theorem fill_nil (n : Nat) : fill n [] = rep n 0 := by
  unfold rep
  apply ext_getD (by simp [length_fill])
  intro i hi
  rw [length_fill] at hi
  rw [getD_fill _ hi]
  simp [List.getD_eq_getElem?_getD, hi]
theorem fill_one (n c : Nat) : fill n [c] = rep n c := by
  unfold rep
  apply ext_getD (by simp [length_fill])
  intro i hi
  rw [length_fill] at hi
  rw [getD_fill _ hi]
  simp [List.getD_eq_getElem?_getD, hi, Nat.mod_one]
theorem byt_fill {n : Nat} {p : List Nat} (h : Byt p) : Byt (fill n p) := by
  intro x hx
  obtain ⟨i, _, rfl⟩ := List.mem_map.1 hx
  exact h.getD _
/-- The first bytes: those of the pattern that there is room for. -/
theorem fill_first {n : Nat} {p : List Nat} : p.take (min p.length n) = fill (min p.length n) p := by
  apply ext_getD
  · rw [length_fill]; simp
  · intro i hi
    have hi' : i < min p.length n := by simpa using hi
    rw [getD_fill _ hi', Nat.mod_eq_of_lt (by omega)]
    simp only [List.getD_eq_getElem?_getD]
    rw [List.getElem?_take_of_lt hi']
/-- What stands, laid behind itself. -/
theorem fill_twice {d m : Nat} {p : List Nat} (hd : d % p.length = 0) (hm : m ≤ d) : fill d p ++ (fill d p).take m = fill (d + m) p := by
  apply ext_getD
  · simp [length_fill]; omega
  · intro i hi
    have hi' : i < d + m := by simp [length_fill] at hi; omega
    rw [getD_fill _ hi']
    simp only [List.getD_eq_getElem?_getD]
    by_cases h : i < d
    · rw [List.getElem?_append_left (by rw [length_fill]; exact h)]
      have := getD_fill p h
      simp only [List.getD_eq_getElem?_getD] at this
      rw [this]
    · rw [List.getElem?_append_right (by rw [length_fill]; omega), length_fill, List.getElem?_take_of_lt (by omega)]
      have := getD_fill p (show i - d < d by omega)
      simp only [List.getD_eq_getElem?_getD] at this
      rw [this]
      have e : (i - d) % p.length = i % p.length := by
        obtain ⟨k, rfl⟩ : ∃ k, i = d + k := ⟨i - d, by omega⟩
        rw [Nat.add_sub_cancel_left, Nat.add_mod d k, hd, Nat.zero_add, Nat.mod_mod]
      rw [e]

theorem shl_or (X c i : Nat) (hX : X < 256 ^ i) : X ||| (c * 2 ^ (8 * i)) = X + 256 ^ i * c := by
  have e : (256 : Nat) ^ i = 2 ^ (8 * i) := by rw [show (256 : Nat) = 2 ^ 8 by decide, ← Nat.pow_mul]
  rw [e] at hX ⊢
  rw [Nat.or_comm, Nat.mul_comm c, ← Nat.two_pow_add_eq_or_of_lt hX c]
  omega

end Go.Proofs.Ytclmdjkihijciaa.MemMath
