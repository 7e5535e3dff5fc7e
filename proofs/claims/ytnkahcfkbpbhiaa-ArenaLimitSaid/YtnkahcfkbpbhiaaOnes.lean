/- Regions of one segment each, from a to b. -/
import Derived.Test.YtnkahcfkbpbhiaaArenaMath
namespace Go.Proofs.Ytnkahcfkbpbhiaa.ArenaMath
set_option linter.unusedVariables false

def ones (a b : Nat) : List (Nat × Nat) := (List.range' a (b - a)).map fun i => (i, 1)
theorem mem_ones {a b : Nat} {x : Nat × Nat} : x ∈ ones a b ↔ a ≤ x.1 ∧ x.1 < b ∧ x.2 = 1 := by
  unfold ones
  rw [List.mem_map]
  constructor
  · rintro ⟨i, hi, rfl⟩
    rw [List.mem_range'_1] at hi
    exact ⟨hi.1, by simp only; omega, rfl⟩
  · rintro ⟨h1, h2, h3⟩
    exact ⟨x.1, List.mem_range'_1.2 ⟨h1, by omega⟩, by rw [← h3]⟩
theorem ones_nil (a : Nat) : ones a a = [] := by simp [ones]
theorem ones_snoc {a b : Nat} (h : a ≤ b) : ones a (b + 1) = ones a b ++ [(b, 1)] := by
  unfold ones
  rw [show b + 1 - a = (b - a) + 1 by omega, List.range'_concat, List.map_append]
  simp; omega
theorem ones_cons {a b : Nat} (h : a < b) : ones a b = (a, 1) :: ones (a + 1) b := by
  unfold ones
  rw [show b - a = (b - (a + 1)) + 1 by omega, List.range'_succ]
  rfl
theorem total_ones (a b : Nat) : total (ones a b) = b - a := by
  unfold total ones
  rw [List.map_map]
  have : ∀ n s, ((List.range' s n).map ((fun x : Nat × Nat => x.2) ∘ fun i => (i, 1))).sum = n := by
    intro n
    induction n with
    | zero => intro s; rfl
    | succ n ih => intro s; rw [List.range'_succ, List.map_cons, List.sum_cons, ih]; simp only [Function.comp]; omega
  exact this _ _
theorem put_ones (i : Nat) : put (ones 0 i) i 1 = ones 0 (i + 1) := by
  unfold put
  rw [List.filter_eq_self.2 (fun x hx => decide_eq_true (mem_ones.1 hx).2.1), List.filter_eq_nil_iff.2 (fun x hx => by have := (mem_ones.1 hx).2.1; simp; omega), ones_snoc (Nat.zero_le _)]
theorem spot_ones {S i : Nat} (h : i < S) : spot S (ones 0 i) 1 = some i := by
  refine spot_of (Nat.le_refl _) (by omega) (fun x hx => ?_) (fun b hb hc => ?_)
  · have := mem_ones.1 hx; omega
  · exact hc (b, 1) (mem_ones.2 ⟨Nat.zero_le _, hb, rfl⟩) ⟨by simp, by simp⟩
theorem del_ones {i k : Nat} (h : i < k) : del (ones i k) i = ones (i + 1) k := by
  unfold del
  rw [ones_cons h, List.filter_cons]
  simp only [ne_eq, not_true_eq_false, decide_false, Bool.false_eq_true, if_false]
  exact List.filter_eq_self.2 (fun x hx => decide_eq_true (by have := mem_ones.1 hx; omega))

/-- Under a limit k, of n, i times asked for one, and as often refused as r0 and beyond the limit. -/
def lims (n k i r0 : Nat) : St := ⟨n, k, ones 0 (min i k), [], r0 + (i - k)⟩
theorem lims_give {n k i r0 : Nat} (hk : k ≤ n) (hi : i < k) (hn : 1 ≤ n) : reserve (lims n k i r0) 1 = ((i : Int), 0, lims n k (i + 1) r0) := by
  have e : min i k = i := by omega
  have e2 : min (i + 1) k = i + 1 := by omega
  have hs : spot (lims n k i r0).S (lims n k i r0).l 1 = some i := by simp only [lims, e]; exact spot_ones (by omega)
  have := reserve_some (s := lims n k i r0) (k := 1) (a := i) (Nat.le_refl _) hn rfl (by simp only [lims, e, total_ones]; omega) hs
  rw [show ((1 : Nat) : Int) = 1 from rfl] at this
  rw [this]
  simp only [lims, St.give, e, e2, put_ones]
  rw [show i - k = i + 1 - k by omega]
  rfl
theorem lims_full {n k i r0 : Nat} (hk : k ≤ n) (hi : k ≤ i) (hn : 1 ≤ n) : reserve (lims n k i r0) 1 = (0, 4, lims n k (i + 1) r0) := by
  have e : min i k = k := by omega
  have e2 : min (i + 1) k = k := by omega
  have := reserve_no (s := lims n k i r0) (k := 1) (Nat.le_refl _) hn (.inr (by simp only [lims, e, total_ones]; omega))
  rw [show ((1 : Nat) : Int) = 1 from rfl] at this
  rw [this]
  simp only [lims, St.no, e, e2]
  rw [show r0 + (i - k) + 1 = r0 + (i + 1 - k) by omega]
  rfl
def backs (n k i r : Nat) : St := ⟨n, k, ones i k, [], r⟩
theorem backs_take {n k i r : Nat} (hi : i < k) : release (backs n k i r) (i : Int) = (0, backs n k (i + 1) r) := by
  unfold release
  rw [if_pos ⟨by omega, (i, 1), mem_ones.2 ⟨Nat.le_refl _, hi, rfl⟩, by simp⟩]
  simp only [backs, Int.toNat_natCast, del_ones hi]
end Go.Proofs.Ytnkahcfkbpbhiaa.ArenaMath
