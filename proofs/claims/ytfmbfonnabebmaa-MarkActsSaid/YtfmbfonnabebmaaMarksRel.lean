/- The loop of the laws of layer 3 that marks rows, one behind the other: what holds at its rounds. -/
import Derived.Test.YtfmbfonnabebmaaAliveMark
import Derived.Deep.Draws
namespace Go.Proofs.Ytfmbfonnabebmaa
open Go.RowKit
set_option linter.unusedVariables false

/-- The element of a slice of structs of three ints that stands at j. -/
theorem Trips.elem {w : World} {A : Option Addr} {n cap : Nat} {l : List (Int × Int × Int)} (h : Trips w (.slice A n cap) l) {j : Nat} (hj : j < l.length) :
    ∃ b off, A = some ⟨b, off, none⟩ ∧ w.cell? ⟨b, off + j * 3, none⟩ = some (.int .i64 (l.getD j (0, 0, 0)).1) ∧ w.cell? ⟨b, off + j * 3 + 1, none⟩ = some (.int .i64 (l.getD j (0, 0, 0)).2.1) ∧ w.cell? ⟨b, off + j * 3 + 2, none⟩ = some (.int .i64 (l.getD j (0, 0, 0)).2.2) := by
  rcases h with ⟨b, off, c, e, hc⟩ | ⟨rfl, _⟩
  · injection e with e1 _ _
    exact ⟨b, off, e1, hc j hj⟩
  · simp at hj
theorem Ints.elem {w : World} {A : Option Addr} {n cap : Nat} {l : List Int} (h : Ints w (.slice A n cap) l) {j : Nat} (hj : j < l.length) :
    ∃ b off, A = some ⟨b, off, none⟩ ∧ w.cell? ⟨b, off + j, none⟩ = some (.int .i64 (l.getD j 0)) := by
  rcases h with ⟨b, off, c, e, hc⟩ | ⟨rfl, _⟩
  · injection e with e1 _ _
    exact ⟨b, off, e1, hc j hj⟩
  · simp at hj
/-- What holds at the head of each round: the marks of 64 places, some taken. -/
def Marking (w : World) (p g : Nat) (m : Nat) (i : Value) (wr : World) : Prop :=
  ∃ k : Nat, k ≤ m ∧ i = .int .i64 (k : Int) ∧ (∃ L, IsMarks wr p 0 g L ∧ L.length = 64) ∧ Below w.heap.size w wr
theorem turnL_len (b : Bool) (L : List Bool) (a k : Int) : (turnL b L a k).length = L.length := by
  unfold turnL
  by_cases h : InAt L a k ∧ MarkMath.allAt L a.toNat k.toNat (!b)
  · obtain ⟨⟨h0, h1, h2⟩, h3⟩ := h
    rw [if_pos ⟨⟨h0, h1, h2⟩, h3⟩, MarkMath.length_setAt _ (by omega)]
  · rw [if_neg h]
theorem takeL_len (L : List Bool) (k : Int) : (takeL L k).length = L.length := by
  unfold takeL
  by_cases h : InRow L k
  · rw [if_pos h]
    obtain ⟨h1, h2⟩ := h
    cases hl : MarkMath.low L k.toNat with
    | none => rfl
    | some a => exact MarkMath.length_setAt _ ((MarkMath.low_some (by omega) hl).1.le (by omega))
  · rw [if_neg h]
end Go.Proofs.Ytfmbfonnabebmaa
