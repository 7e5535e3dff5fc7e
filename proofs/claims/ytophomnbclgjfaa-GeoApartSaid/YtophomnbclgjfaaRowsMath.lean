/- Runs one behind the other, as the law GeoApart lays them. -/
import Derived.Test.YtophomnbclgjfaaGeoMath
namespace Go.Proofs.Ytophomnbclgjfaa.GeoMath
set_option linter.unusedVariables false

def szN (s : Nat) : Nat := s % 40 + 1
def ctN (s : Nat) : Nat := s % 5 + 1
def wdN (s : Nat) : Nat := ctN s * szN s
theorem wd_bounds (s : Nat) : 1 ≤ wdN s ∧ wdN s ≤ 200 ∧ 1 ≤ szN s ∧ szN s ≤ 40 ∧ 1 ≤ ctN s ∧ ctN s ≤ 5 := by
  have h1 : 1 ≤ szN s ∧ szN s ≤ 40 := by unfold szN; omega
  have h2 : 1 ≤ ctN s ∧ ctN s ≤ 5 := by unfold ctN; omega
  have h3 : 1 * 1 ≤ ctN s * szN s := Nat.mul_le_mul h2.1 h1.1
  have h4 : ctN s * szN s ≤ 5 * 40 := Nat.mul_le_mul h2.2 h1.2
  unfold wdN
  exact ⟨by omega, by omega, h1.1, h1.2, h2.1, h2.2⟩
def frN (L : List Nat) : Nat → Nat
  | 0 => 300
  | j + 1 => frN L j + wdN (L.getD j 0)
theorem frN_le (L : List Nat) : ∀ j, 300 ≤ frN L j ∧ frN L j ≤ 300 + 200 * j
  | 0 => ⟨Nat.le_refl _, by simp [frN]⟩
  | j + 1 => by
    have := frN_le L j
    have := wd_bounds (L.getD j 0)
    unfold frN; omega
theorem frN_mono (L : List Nat) {i j : Nat} (h : i ≤ j) : frN L i ≤ frN L j := by
  induction j with
  | zero => obtain rfl : i = 0 := by omega
            exact Nat.le_refl _
  | succ j ih =>
    rcases Nat.lt_or_ge i (j + 1) with x | x
    · have := ih (by omega)
      show frN L i ≤ frN L j + wdN (L.getD j 0); omega
    · obtain rfl : i = j + 1 := by omega
      exact Nat.le_refl _
def rnAt (L : List Nat) (j : Nat) : Rn := (frN L j, szN (L.getD j 0), ((ctN (L.getD j 0) : Nat) : Int))
def rows (L : List Nat) (k : Nat) : List Rn := (List.range k).map (rnAt L)
theorem rows_length (L : List Nat) (k : Nat) : (rows L k).length = k := by simp [rows]
theorem rows_succ (L : List Nat) (k : Nat) : rows L (k + 1) = rows L k ++ [rnAt L k] := by unfold rows; rw [List.range_succ, List.map_append]; rfl
theorem rows_get (L : List Nat) {k j : Nat} (h : j < k) : (rows L k)[j]? = some (rnAt L j) := by simp [rows, h]
theorem rows_getD (L : List Nat) {k j : Nat} (h : j < k) : (rows L k).getD j rn0 = rnAt L j := by rw [List.getD_eq_getElem?_getD, rows_get L h]; rfl
theorem row_may (L : List Nat) {j : Nat} (h : j ≤ 60) : mayN (rnAt L j).1 (rnAt L j).2.1 (rnAt L j).2.2 = true := by
  have h1 := frN_le L j
  have h2 := wd_bounds (L.getD j 0)
  refine may_iff.2 ⟨h2.2.2.1, ?_, ?_, ?_, ?_, ?_⟩ <;> simp only [rnAt]
  · omega
  · omega
  · omega
  · omega
  · rw [Int.toNat_natCast]
    have : ctN (L.getD j 0) * szN (L.getD j 0) = wdN (L.getD j 0) := rfl
    omega
theorem row_end (L : List Nat) {j : Nat} (h : j ≤ 60) : endN (rnAt L j).1 (rnAt L j).2.1 (rnAt L j).2.2 = frN L (j + 1) := by
  unfold endN
  rw [if_pos (row_may L h)]
  simp only [rnAt, Int.toNat_natCast, frN, wdN]
theorem row_bd (L : List Nat) {j : Nat} (h : j ≤ 60) : (rnAt L j).1 ≤ 12300 ∧ 1 ≤ (rnAt L j).2.1 ∧ (rnAt L j).2.1 ≤ 40 ∧ 1 ≤ (rnAt L j).2.2 ∧ (rnAt L j).2.2 ≤ 5 := by
  have h1 := frN_le L j
  have h2 := wd_bounds (L.getD j 0)
  simp only [rnAt]
  omega
theorem rows_apart (L : List Nat) {k : Nat} (h : k ≤ 60) : meetN (rows L k) = false := by
  rw [Bool.eq_false_iff]
  intro x
  obtain ⟨i, j, h1, h2, h3⟩ := meetN_iff.1 x
  rw [rows_length] at h2
  rw [rows_getD L h2, rows_getD L (show i < k by omega)] at h3
  obtain ⟨_, _, _, _, h4, _⟩ := meet2_iff.1 h3
  rw [row_end L (by omega)] at h4
  have := frN_mono L (show i + 1 ≤ j from h1)
  simp only [rnAt] at h4
  omega
/-- Row k, moved back by b. -/
def moved (L : List Nat) (k b : Nat) : Rn := (frN L k - b, szN (L.getD k 0), ((ctN (L.getD k 0) : Nat) : Int))
theorem moved_may (L : List Nat) {k b : Nat} (h : k ≤ 60) (hb : b ≤ 200) : mayN (moved L k b).1 (moved L k b).2.1 (moved L k b).2.2 = true := by
  have h1 := frN_le L k
  have h2 := wd_bounds (L.getD k 0)
  refine may_iff.2 ⟨h2.2.2.1, ?_, ?_, ?_, ?_, ?_⟩ <;> simp only [moved]
  · omega
  · omega
  · omega
  · omega
  · rw [Int.toNat_natCast]
    have : ctN (L.getD k 0) * szN (L.getD k 0) = wdN (L.getD k 0) := rfl
    omega
theorem moved_meets (L : List Nat) {k b : Nat} (h : k + 1 ≤ 60) (hb1 : 1 ≤ b) (hb2 : b ≤ wdN (L.getD k 0)) : meet2 (moved L (k + 1) b) (rnAt L k) = true := by
  have h1 := frN_le L k
  have h2 := wd_bounds (L.getD k 0)
  have h3 := wd_bounds (L.getD (k + 1) 0)
  refine meet2_iff.2 ⟨moved_may L h (by omega), row_may L (by omega), ?_, ?_, ?_, ?_⟩
  · simp only [moved]; omega
  · simp only [rnAt]; omega
  · rw [row_end L (by omega)]; simp only [moved, frN]; omega
  · unfold endN
    rw [if_pos (moved_may L h (by omega))]
    simp only [moved, rnAt, Int.toNat_natCast, frN]
    have : ctN (L.getD (k + 1) 0) * szN (L.getD (k + 1) 0) = wdN (L.getD (k + 1) 0) := rfl
    omega
theorem moved_all (L : List Nat) {n k b : Nat} (hn : n ≤ 60) (h : k + 1 < n) (hb1 : 1 ≤ b) (hb2 : b ≤ wdN (L.getD k 0)) : meetN ((rows L n).set (k + 1) (moved L (k + 1) b)) = true := by
  refine meetN_iff.2 ⟨k, k + 1, by omega, by rw [List.length_set, rows_length]; exact h, ?_⟩
  have e1 : ((rows L n).set (k + 1) (moved L (k + 1) b)).getD (k + 1) rn0 = moved L (k + 1) b := by
    rw [List.getD_eq_getElem?_getD, List.getElem?_set_self (by rw [rows_length]; exact h)]; rfl
  have e2 : ((rows L n).set (k + 1) (moved L (k + 1) b)).getD k rn0 = rnAt L k := by
    rw [List.getD_eq_getElem?_getD, List.getElem?_set_ne (by omega), rows_get L (show k < n by omega)]; rfl
  rw [e1, e2]
  exact moved_meets L (by omega) hb1 hb2
theorem moved_two (L : List Nat) {k b : Nat} (h : k + 1 ≤ 60) (hb1 : 1 ≤ b) (hb2 : b ≤ wdN (L.getD k 0)) : meetN [moved L (k + 1) b, rnAt L k] = true := by
  rw [meetN_two, meet2_comm]; exact moved_meets L h hb1 hb2
end Go.Proofs.Ytophomnbclgjfaa.GeoMath
