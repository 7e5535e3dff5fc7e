/- The map of the numbers that were met (for QueueOnce). -/
import Derived.Test.YtolccandekgmoaaBoolMap
import Derived.Test.YtolccandekgmoaaQueueCl
namespace Go.Proofs.Ytolccandekgmoaa
open Go.RowKit Go.Maps QueueMath
set_option linter.unusedVariables false

theorem keyI : Keyed Try.prog 3 := int_keyed Try.underlying3
theorem zeroB11 (w : World) : (zeroValue 4).run Try.prog w = .ok (.bool false) w := by kernel_rfl
/-- The map says true of just these. -/
def MetI (D : DataW Unit) (acc : List Int) : Prop := ∀ x : Int, D.atKey (.int .i64 x) (.lit (.bool false)) = .lit (.bool (acc.contains x))
theorem metI_nil : MetI (.map []) [] := fun x => rfl
theorem MetI.put {D : DataW Unit} {acc : List Int} (h : MetI D acc) (hD : IsMap D) (x : Int) : MetI (D.put (.int .i64 x) (.lit (.bool true))) (acc ++ [x]) := by
  intro y
  by_cases hy : y = x
  · subst hy
    rw [atKey_put_same hD (by trivial)]
    simp
  · rw [atKey_put_other (by intro e; injection e with _ e; exact hy e), h y]
    simp [hy]
/-- At round t over the row of all; the queue is as it was. -/
def SeenR {w : World} (C : QuC w) (b b4 : Nat) (O : Nat → Prop) (S : QR) (v : Value) (n : Nat) (i : Value) (wr : World) : Prop :=
  ∃ (t : Nat) (D : DataW Unit), t ≤ n ∧ i = .int .i64 (t : Int) ∧ OQ C b O S wr ∧ Arr wr v S.all ∧ wr.ownsMap Try.prog 3 (plainElem Try.prog 4) b4 t D ∧ MetI D (S.all.take t)
end Go.Proofs.Ytolccandekgmoaa
