/- What a ledger's acts make of it: sums, lengths, orders. -/
import Derived.Test.YtclmdjkihijciaaLedO
import Derived.Test.YtclmdjkihijciaaLaw15
namespace Go.Proofs.Ytclmdjkihijciaa
set_option linter.unusedVariables false
open Go.RowKit
theorem Blk.c3 {w : World} {g : Nat} {t : TypeId} {a b c : Value} (h : Blk w g t #[a, b, c]) : w.cell? ⟨g, 0, none⟩ = some a ∧ w.cell? ⟨g, 1, none⟩ = some b ∧ w.cell? ⟨g, 2, none⟩ = some c := ⟨h.cell 0, h.cell 1, h.cell 2⟩
namespace LedMath
theorem sumN_perm {L M : List En} (h : L.Perm M) : sumN L = sumN M := by
  induction h with
  | nil => rfl
  | cons x _ ih => unfold sumN at ih ⊢; simp only [List.map_cons, List.sum_cons, ih]
  | swap x y l => unfold sumN; simp only [List.map_cons, List.sum_cons]; omega
  | trans _ _ h1 h2 => exact h1.trans h2
theorem ins_perm (L : List En) (b : En) : (insE L b).Perm (b :: L) := by
  unfold insE
  refine (List.perm_middle).trans (List.Perm.cons b ?_)
  have h : (L.filter fun e => decide (b.a ≤ e.a)) = L.filter (fun e => !decide (e.a < b.a)) := by
    congr 1; funext e
    by_cases h : e.a < b.a
    · simp [h]
    · simp [h]; omega
  rw [h]
  exact List.filter_append_perm _ _
theorem ins_len (L : List En) (b : En) : (insE L b).length = L.length + 1 := by
  rw [(ins_perm L b).length_eq]; rfl
theorem ins_sum (L : List En) (b : En) : sumN (insE L b) = sumN L + b.n := by
  rw [sumN_perm (ins_perm L b)]
  simp [sumN]; omega
theorem addE_cases (L : List En) (a n g : Nat) : addE L a n g = (2, L) ∨ addE L a n g = (6, L) ∨ (mayE a n g = true ∧ addE L a n g = (0, insE L ⟨a, n, g, false⟩)) := by
  unfold addE
  by_cases h1 : mayE a n g = true
  · rw [if_pos h1]
    by_cases h2 : metL L a (max n 1) = true
    · rw [if_pos h2]; exact .inr (.inl rfl)
    · rw [if_neg h2]; exact .inr (.inr ⟨h1, rfl⟩)
  · rw [if_neg h1]; exact .inl rfl
end LedMath
end Go.Proofs.Ytclmdjkihijciaa
