/- Places and runs, as numbers. -/
namespace Go.Proofs.YtomepdgddpajoaaDoor.GeoMath
set_option linter.unusedVariables false

/-! ### Places -/
structure Plc where
  g : Int
  l : Int
  o : Nat
def atN (a : Nat) : Plc := if a < 1048576 then ⟨((a / 16384 : Nat) : Int), ((a % 16384 / 1024 : Nat) : Int), a % 1024⟩ else ⟨0, 0, 0⟩
def atE (a : Nat) : Int := if a < 1048576 then 0 else 3
def isPlc (g l : Int) (o : Nat) : Bool := decide (0 ≤ g) && decide (g ≤ 63) && decide (0 ≤ l) && decide (l ≤ 15) && decide (o ≤ 1023)
def addrN (g l : Int) (o : Nat) : Nat := if isPlc g l o = true then g.toNat * 16384 + l.toNat * 1024 + o else 0
def addrE (g l : Int) (o : Nat) : Int := if isPlc g l o = true then 0 else 3
theorem isPlc_iff {g l : Int} {o : Nat} : isPlc g l o = true ↔ (0 ≤ g ∧ g ≤ 63 ∧ 0 ≤ l ∧ l ≤ 15 ∧ o ≤ 1023) := by
  unfold isPlc; simp [and_assoc]
theorem atN_lt {a : Nat} (h : a < 1048576) : atN a = ⟨((a / 16384 : Nat) : Int), ((a % 16384 / 1024 : Nat) : Int), a % 1024⟩ := if_pos h
theorem atE_lt {a : Nat} (h : a < 1048576) : atE a = 0 := if_pos h
theorem atN_ge {a : Nat} (h : ¬ a < 1048576) : atN a = ⟨0, 0, 0⟩ := if_neg h
theorem atE_ge {a : Nat} (h : ¬ a < 1048576) : atE a = 3 := if_neg h
theorem addr_of {g l o : Nat} (hg : g ≤ 63) (hl : l ≤ 15) (ho : o ≤ 1023) : addrN (g : Int) (l : Int) o = g * 16384 + l * 1024 + o ∧ addrE (g : Int) (l : Int) o = 0 := by
  have h : isPlc (g : Int) (l : Int) o = true := isPlc_iff.2 ⟨by omega, by omega, by omega, by omega, ho⟩
  unfold addrN addrE
  rw [if_pos h, if_pos h]
  exact ⟨by simp, rfl⟩

theorem back_addr {a x y z : Nat} (h : a < 1048576) (hx : a / 16384 = x) (hy : a % 16384 / 1024 = y) (hz : a % 1024 = z) : addrN (x : Int) (y : Int) z = a ∧ addrE (x : Int) (y : Int) z = 0 ∧ x ≤ 63 ∧ y ≤ 15 ∧ z ≤ 1023 := by
  have b1 : x ≤ 63 := by omega
  have b2 : y ≤ 15 := by omega
  have b3 : z ≤ 1023 := by omega
  obtain ⟨e1, e2⟩ := addr_of (g := x) (l := y) (o := z) b1 b2 b3
  exact ⟨by rw [e1]; omega, e2, b1, b2, b3⟩
theorem at_addr {g l o : Nat} (hg : g ≤ 63) (hl : l ≤ 15) (ho : o ≤ 1023) : atN (g * 16384 + l * 1024 + o) = ⟨(g : Int), (l : Int), o⟩ ∧ atE (g * 16384 + l * 1024 + o) = 0 := by
  have h : g * 16384 + l * 1024 + o < 1048576 := by omega
  rw [atN_lt h, atE_lt h, show (g * 16384 + l * 1024 + o) / 16384 = g by omega, show (g * 16384 + l * 1024 + o) % 16384 / 1024 = l by omega, show (g * 16384 + l * 1024 + o) % 1024 = o by omega]
  exact ⟨rfl, rfl⟩
/-- The next address's place. -/
theorem at_next {a x y z : Nat} (h : a < 1048576) (hx : a / 16384 = x) (hy : a % 16384 / 1024 = y) (hz : a % 1024 = z) :
    (a + 1 = 1048576 ∧ atN (a + 1) = ⟨0, 0, 0⟩ ∧ atE (a + 1) = 3) ∨
    (a + 1 < 1048576 ∧ atE (a + 1) = 0 ∧ ((z < 1023 ∧ atN (a + 1) = ⟨(x : Int), (y : Int), z + 1⟩) ∨ (¬ z < 1023 ∧ y < 15 ∧ atN (a + 1) = ⟨(x : Int), (y : Int) + 1, 0⟩) ∨ (¬ z < 1023 ∧ ¬ y < 15 ∧ atN (a + 1) = ⟨(x : Int) + 1, 0, 0⟩))) := by
  by_cases hlt : a + 1 < 1048576
  · refine Or.inr ⟨hlt, atE_lt hlt, ?_⟩
    rw [atN_lt hlt]
    by_cases h1 : z < 1023
    · rw [show (a + 1) / 16384 = x by omega, show (a + 1) % 16384 / 1024 = y by omega, show (a + 1) % 1024 = z + 1 by omega]
      exact Or.inl ⟨h1, rfl⟩
    · by_cases h2 : y < 15
      · rw [show (a + 1) / 16384 = x by omega, show (a + 1) % 16384 / 1024 = y + 1 by omega, show (a + 1) % 1024 = 0 by omega]
        exact Or.inr (Or.inl ⟨h1, h2, by simp⟩)
      · rw [show (a + 1) / 16384 = x + 1 by omega, show (a + 1) % 16384 / 1024 = 0 by omega, show (a + 1) % 1024 = 0 by omega]
        exact Or.inr (Or.inr ⟨h1, h2, by simp⟩)
  · exact Or.inl ⟨by omega, atN_ge hlt, atE_ge hlt⟩

/-! ### Runs -/
def mayN (f s : Nat) (n : Int) : Bool := decide (1 ≤ s) && decide (s ≤ 1048576) && decide (0 ≤ n) && decide (n ≤ 1024) && decide (f ≤ 1048576) && decide (f + n.toNat * s ≤ 1048576)
theorem may_iff {f s : Nat} {n : Int} : mayN f s n = true ↔ (1 ≤ s ∧ s ≤ 1048576 ∧ 0 ≤ n ∧ n ≤ 1024 ∧ f ≤ 1048576 ∧ f + n.toNat * s ≤ 1048576) := by
  unfold mayN; simp [and_assoc]
def endN (f s : Nat) (n : Int) : Nat := if mayN f s n = true then f + n.toNat * s else 0
def blockN (f s : Nat) (n i : Int) : Nat := if mayN f s n = true ∧ 0 ≤ i ∧ i < n then f + i.toNat * s else 0
def blockE (f s : Nat) (n i : Int) : Int := if mayN f s n = true then (if 0 ≤ i ∧ i < n then 0 else 3) else 2
def hits (f s : Nat) (n : Int) (a : Nat) : Bool := decide (f ≤ a) && decide (a < f + n.toNat * s)
def indexN (f s : Nat) (n : Int) (a : Nat) : Nat := if mayN f s n = true ∧ hits f s n a = true ∧ (a - f) % s = 0 then (a - f) / s else 0
def indexE (f s : Nat) (n : Int) (a : Nat) : Int := if mayN f s n = true then (if hits f s n a = true then (if (a - f) % s = 0 then 0 else 5) else 3) else 2
def inN (f s : Nat) (n : Int) (l : List Nat) : Bool := mayN f s n && l.all fun a => hits f s n a
theorem hits_iff {f s a : Nat} {n : Int} : hits f s n a = true ↔ (f ≤ a ∧ a < f + n.toNat * s) := by unfold hits; simp
theorem hits_block {f s a i : Nat} {n : Int} (hi : (i : Int) < n) (h1 : f + i * s ≤ a) (h2 : a < f + i * s + s) : hits f s n a = true := by
  refine hits_iff.2 ⟨by omega, ?_⟩
  have : (i + 1) * s ≤ n.toNat * s := Nat.mul_le_mul_right s (by omega)
  rw [Nat.add_mul, Nat.one_mul] at this
  omega
theorem sub_block {f s a i : Nat} (hs : 1 ≤ s) (h1 : f + i * s ≤ a) (h2 : a < f + i * s + s) : (a - f) / s = i ∧ (a - f) % s = a - (f + i * s) := by
  have e : a - f = (a - (f + i * s)) + i * s := by omega
  have hlt : a - (f + i * s) < s := by omega
  rw [e]
  exact ⟨by rw [Nat.add_mul_div_right _ _ (by omega), Nat.div_eq_of_lt hlt, Nat.zero_add], by rw [Nat.add_mul_mod_self_right, Nat.mod_eq_of_lt hlt]⟩
theorem index_hit {f s a i : Nat} {n : Int} (hm : mayN f s n = true) (hi : (i : Int) < n) (h : a = f + i * s) : indexN f s n a = i ∧ indexE f s n a = 0 := by
  have hs := (may_iff.1 hm).1
  have hh := hits_block (f := f) (s := s) (a := a) hi (by omega) (by omega)
  obtain ⟨e1, e2⟩ := sub_block (f := f) (a := a) (i := i) hs (by omega) (by omega)
  have e3 : (a - f) % s = 0 := by rw [e2]; omega
  unfold indexN indexE
  rw [if_pos ⟨hm, hh, e3⟩, if_pos hm, if_pos hh, if_pos e3]
  exact ⟨e1, rfl⟩
theorem index_mid {f s a i : Nat} {n : Int} (hm : mayN f s n = true) (hi : (i : Int) < n) (h1 : f + i * s < a) (h2 : a < f + i * s + s) : indexN f s n a = 0 ∧ indexE f s n a = 5 := by
  have hs := (may_iff.1 hm).1
  have hh := hits_block (f := f) (s := s) (a := a) hi (by omega) (by omega)
  obtain ⟨e1, e2⟩ := sub_block (f := f) (a := a) (i := i) hs (by omega) (by omega)
  have e3 : ¬ (a - f) % s = 0 := by rw [e2]; omega
  unfold indexN indexE
  rw [if_neg (fun h => e3 h.2.2), if_pos hm, if_pos hh, if_neg e3]
  exact ⟨rfl, rfl⟩
theorem index_out {f s a : Nat} {n : Int} (hm : mayN f s n = true) (h : hits f s n a = false) : indexN f s n a = 0 ∧ indexE f s n a = 3 := by
  unfold indexN indexE
  rw [if_neg (fun x => by rw [h] at x; cases x.2.1), if_pos hm, if_neg (by rw [h]; decide)]
  exact ⟨rfl, rfl⟩
theorem index_bad {f s a : Nat} {n : Int} (hm : ¬ mayN f s n = true) : indexN f s n a = 0 ∧ indexE f s n a = 2 := by
  unfold indexN indexE
  rw [if_neg (fun x => hm x.1), if_neg hm]
  exact ⟨rfl, rfl⟩
/-- What is in none of the blocks is not in the run. -/
theorem hits_none {f s a : Nat} {n : Int} (hs : 1 ≤ s) (h : ∀ i : Nat, (i : Int) < n → ¬ (f + i * s ≤ a ∧ a < f + i * s + s)) : hits f s n a = false := by
  cases hh : hits f s n a with
  | false => rfl
  | true =>
    obtain ⟨h1, h2⟩ := hits_iff.1 hh
    have hd := Nat.div_add_mod (a - f) s
    have hm := Nat.mod_lt (a - f) (show s > 0 by omega)
    have hlt : (a - f) / s < n.toNat := by
      rw [Nat.div_lt_iff_lt_mul (by omega)]; omega
    rw [Nat.mul_comm] at hd
    obtain ⟨q, hq⟩ : ∃ q, (a - f) / s = q := ⟨_, rfl⟩
    rw [hq] at hd hlt
    exact absurd ⟨by omega, by omega⟩ (h q (by omega))
/-- In one of them, or in none: In's answer is Index's. -/
theorem in_one {f s a : Nat} {n : Int} : inN f s n [a] = (decide (indexE f s n a = 0) || decide (indexE f s n a = 5)) := by
  unfold inN indexE
  by_cases hm : mayN f s n = true
  · rw [if_pos hm, hm]
    by_cases hh : hits f s n a = true
    · rw [if_pos hh]; by_cases h0 : (a - f) % s = 0
      · rw [if_pos h0]; simp [hh]
      · rw [if_neg h0]; simp [hh]
    · rw [if_neg hh]; simp [Bool.eq_false_iff.2 hh]
  · rw [if_neg hm, Bool.eq_false_iff.2 hm]; simp
theorem in_nil {f s : Nat} {n : Int} : inN f s n [] = mayN f s n := by simp [inN]

/-! ### Runs that meet -/
/-- A run: where it begins, its size, how many. -/
abbrev Rn := Nat × Nat × Int
def meet2 (a b : Rn) : Bool := mayN a.1 a.2.1 a.2.2 && mayN b.1 b.2.1 b.2.2 && decide (0 < a.2.2) && decide (0 < b.2.2) && decide (a.1 < endN b.1 b.2.1 b.2.2) && decide (b.1 < endN a.1 a.2.1 a.2.2)
theorem meet2_iff {a b : Rn} : meet2 a b = true ↔ (mayN a.1 a.2.1 a.2.2 = true ∧ mayN b.1 b.2.1 b.2.2 = true ∧ 0 < a.2.2 ∧ 0 < b.2.2 ∧ a.1 < endN b.1 b.2.1 b.2.2 ∧ b.1 < endN a.1 a.2.1 a.2.2) := by
  unfold meet2; simp [and_assoc]
theorem meet2_comm (a b : Rn) : meet2 a b = meet2 b a := by
  rw [Bool.eq_iff_iff, meet2_iff, meet2_iff]
  constructor <;> (rintro ⟨h1, h2, h3, h4, h5, h6⟩; exact ⟨h2, h1, h4, h3, h6, h5⟩)
def rn0 : Rn := (0, 0, 0)
/-- Do two of the first k meet? -/
def meetTo (l : List Rn) (k : Nat) : Bool := (List.range k).any fun j => (l.take j).any fun s => meet2 (l.getD j rn0) s
def meetN (l : List Rn) : Bool := meetTo l l.length
theorem meetTo_zero (l : List Rn) : meetTo l 0 = false := rfl
theorem meetTo_succ (l : List Rn) (k : Nat) : meetTo l (k + 1) = (meetTo l k || (l.take k).any fun s => meet2 (l.getD k rn0) s) := by
  unfold meetTo; rw [List.range_succ, List.any_append]; simp
/-- Is one of the first j met by x? -/
def metBy (x : Rn) (l : List Rn) (j : Nat) : Bool := (l.take j).any fun s => meet2 x s
theorem metBy_zero (x : Rn) (l : List Rn) : metBy x l 0 = false := by simp [metBy]
theorem metBy_succ (x : Rn) (l : List Rn) {j : Nat} (h : j < l.length) : metBy x l (j + 1) = (metBy x l j || meet2 x (l.getD j rn0)) := by
  unfold metBy
  rw [List.take_add_one, List.any_append]
  simp [List.getD_eq_getElem?_getD, h]
theorem meetN_iff {l : List Rn} : meetN l = true ↔ ∃ i j, i < j ∧ j < l.length ∧ meet2 (l.getD j rn0) (l.getD i rn0) = true := by
  unfold meetN meetTo
  rw [List.any_eq_true]
  constructor
  · rintro ⟨j, hj, h⟩
    rw [List.mem_range] at hj
    rw [List.any_eq_true] at h
    obtain ⟨s, hs, h⟩ := h
    obtain ⟨i, hi, e⟩ := List.mem_iff_getElem.1 hs
    rw [List.length_take] at hi
    refine ⟨i, j, by omega, hj, ?_⟩
    rw [List.getElem_take] at e
    rw [show l.getD i rn0 = s by rw [← e]; simp [List.getD_eq_getElem?_getD, show i < l.length by omega]]
    exact h
  · rintro ⟨i, j, h1, h2, h3⟩
    refine ⟨j, List.mem_range.2 h2, ?_⟩
    rw [List.any_eq_true]
    refine ⟨l.getD i rn0, ?_, h3⟩
    rw [List.mem_iff_getElem]
    refine ⟨i, by rw [List.length_take]; omega, ?_⟩
    rw [List.getElem_take]
    simp [List.getD_eq_getElem?_getD, show i < l.length by omega]
theorem getD_reverse {l : List Rn} {i : Nat} (h : i < l.length) : l.reverse.getD i rn0 = l.getD (l.length - 1 - i) rn0 := by
  simp [List.getD_eq_getElem?_getD, List.getElem?_reverse h]
theorem meetN_reverse (l : List Rn) : meetN l.reverse = meetN l := by
  rw [Bool.eq_iff_iff, meetN_iff, meetN_iff]
  constructor
  · rintro ⟨i, j, h1, h2, h3⟩
    rw [List.length_reverse] at h2
    rw [getD_reverse h2, getD_reverse (show i < l.length by omega), meet2_comm] at h3
    exact ⟨l.length - 1 - j, l.length - 1 - i, by omega, by omega, h3⟩
  · rintro ⟨i, j, h1, h2, h3⟩
    refine ⟨l.length - 1 - j, l.length - 1 - i, by omega, by rw [List.length_reverse]; omega, ?_⟩
    rw [getD_reverse (show l.length - 1 - i < l.length by omega), getD_reverse (show l.length - 1 - j < l.length by omega), meet2_comm]
    rw [show l.length - 1 - (l.length - 1 - i) = i by omega, show l.length - 1 - (l.length - 1 - j) = j by omega]
    exact h3
theorem meetN_two (x y : Rn) : meetN [x, y] = meet2 y x := by
  unfold meetN
  rw [show [x, y].length = 1 + 1 from rfl, meetTo_succ, show (1 : Nat) = 0 + 1 from rfl, meetTo_succ, meetTo_zero]
  simp
theorem meetN_one (x : Rn) : meetN [x] = false := by
  unfold meetN
  rw [show [x].length = 0 + 1 from rfl, meetTo_succ, meetTo_zero]
  simp
theorem meetN_nil : meetN [] = false := rfl
/-- The run over a segment's slices. -/
theorem seg_may {s : Nat} (h : s ≤ 62) : mayN (s * 16384) 1024 16 = true ∧ mayN (s * 16384 + 16384) 1024 1 = true :=
  ⟨may_iff.2 ⟨by omega, by omega, by omega, by omega, by omega, by rw [show (16 : Int).toNat = 16 from rfl]; omega⟩, may_iff.2 ⟨by omega, by omega, by omega, by omega, by omega, by rw [show (1 : Int).toNat = 1 from rfl]; omega⟩⟩
theorem seg_end {s : Nat} (h : s ≤ 62) : endN (s * 16384) 1024 16 = s * 16384 + 16384 := by
  unfold endN; rw [if_pos (seg_may h).1]; rfl
theorem seg_meet {s : Nat} (h : s ≤ 62) : meetN [(s * 16384, 1024, 16), (s * 16384 + 16384, 1024, 1)] = false := by
  rw [meetN_two, Bool.eq_false_iff]
  intro x
  obtain ⟨_, _, _, _, x, _⟩ := meet2_iff.1 x
  simp only [seg_end h] at x
  omega
theorem seg_block {s i : Nat} (h : s ≤ 62) (hi : i < 16) : blockN (s * 16384) 1024 16 (i : Int) = s * 16384 + i * 1024 ∧ blockE (s * 16384) 1024 16 (i : Int) = 0 := by
  unfold blockN blockE
  rw [if_pos ⟨(seg_may h).1, by omega, by omega⟩, if_pos (seg_may h).1, if_pos ⟨by omega, by omega⟩]
  exact ⟨by simp, rfl⟩
theorem seg_index {s i : Nat} (h : s ≤ 62) (hi : i < 16) : indexN (s * 16384) 1024 16 (s * 16384 + i * 1024) = i ∧ indexE (s * 16384) 1024 16 (s * 16384 + i * 1024) = 0 :=
  index_hit (seg_may h).1 (by omega) rfl
theorem seg_in {s i o : Nat} (h : s ≤ 62) (hi : i < 16) (ho : o ≤ 1023) : inN (s * 16384) 1024 16 [s * 16384 + i * 1024 + o] = true := by
  unfold inN
  rw [(seg_may h).1]
  have : hits (s * 16384) 1024 16 (s * 16384 + i * 1024 + o) = true := hits_iff.2 ⟨by omega, by simp only [show (16 : Int).toNat = 16 from rfl]; omega⟩
  simp [this]
end Go.Proofs.YtomepdgddpajoaaDoor.GeoMath
