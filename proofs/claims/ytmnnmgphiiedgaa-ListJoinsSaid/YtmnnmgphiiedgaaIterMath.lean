/- What the landed iterator hands on: each block's address with its link. -/
import Derived.Test.YtmnnmgphiiedgaaChains
namespace Go.Proofs.Ytmnnmgphiiedgaa.ListMath
set_option linter.unusedVariables false

def walkF (L : List Nat) : Nat → Nat → List (Nat × Nat)
  | 0, _ => []
  | m + 1, h => if h = 0 then [] else if h + 8 ≤ L.length then (h, linkAt L h) :: walkF L m (linkAt L h) else []
def endF : Nat → List (Nat × Nat) → Nat
  | h, [] => h
  | _, x :: t => endF x.2 t
theorem endF_snoc (t : List (Nat × Nat)) (x : Nat × Nat) : ∀ h, endF h (t ++ [x]) = x.2 := by
  induction t with
  | nil => intro h; rfl
  | cons y t ih => intro h; exact ih _
theorem walkF_zero (L : List Nat) (m : Nat) : walkF L m 0 = [] := by cases m <;> simp [walkF]
theorem rowF_walk (L : List Nat) : ∀ (m h : Nat), rowF L m h = if endF h (walkF L m h) = 0 then some ((walkF L m h).map (·.1)) else none
  | 0, h => by simp [rowF, walkF, endF]
  | m + 1, h => by
    by_cases h0 : h = 0
    · subst h0; simp [rowF, walkF, endF]
    · by_cases h8 : h + 8 ≤ L.length
      · simp only [rowF, walkF, if_neg h0, if_pos h8, endF, List.map_cons]
        rw [rowF_walk L m]
        split <;> rfl
      · simp [rowF, walkF, h0, h8, endF]
theorem walkF_len (L : List Nat) : ∀ (m h : Nat), (walkF L m h).length ≤ m
  | 0, h => by simp [walkF]
  | m + 1, h => by
    have := walkF_len L m (linkAt L h)
    unfold walkF
    split
    · simp
    · split
      · simp; omega
      · simp
theorem walkF_in {L : List Nat} {m h k : Nat} (hm : 0 < m) (h0 : h ≠ 0) (h8 : h + 8 ≤ L.length) (hk : linkAt L h = k) : walkF L m h = (h, k) :: walkF L (m - 1) k := by
  obtain ⟨d, rfl⟩ : ∃ d, m = d + 1 := ⟨m - 1, by omega⟩
  rw [show d + 1 - 1 = d by omega, ← hk]
  show (if h = 0 then _ else if h + 8 ≤ L.length then _ else _ : List (Nat × Nat)) = _
  rw [if_neg h0, if_pos h8]
theorem walkF_out {L : List Nat} {m h : Nat} (h8 : ¬ h + 8 ≤ L.length) : walkF L m h = [] := by
  cases m with
  | zero => rfl
  | succ d =>
    unfold walkF; split
    · rfl
    · rfl
end Go.Proofs.Ytmnnmgphiiedgaa.ListMath
