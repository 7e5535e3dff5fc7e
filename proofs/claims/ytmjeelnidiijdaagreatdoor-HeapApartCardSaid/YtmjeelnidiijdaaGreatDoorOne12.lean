/- The blocks that HeapApart notes: where, how many bytes, which byte. -/
import Derived.Test.YtmjeelnidiijdaaGreatDoorElems
import Derived.Test.YtmjeelnidiijdaaGreatDoorGets12
namespace Go.Proofs.YtmjeelnidiijdaaGreatDoor
open Go.RowKit HeapMath
set_option linter.unusedVariables false
/-- One of them: three cells. -/
def oneE : Elem (Nat × Nat × Nat) := ⟨3, fun x => [.int .u64 (x.1 : Int), .int .u64 (x.2.1 : Int), .int .u8 (x.2.2 : Int)], fun _ => rfl, by
  intro x u h
  rcases List.mem_cons.1 h with rfl | h
  · rfl
  rcases List.mem_cons.1 h with rfl | h
  · rfl
  · rw [List.mem_singleton.1 h]; rfl, by decide⟩
/-- What was written into each of them is there still. -/
def Told (L : List Nat) (l : List (Nat × Nat × Nat)) : Prop := ∀ x ∈ l, ∀ i, x.1 ≤ i → i < x.1 + x.2.1 → L.getD i 0 = x.2.2
theorem Told.less {L : List Nat} {l m : List (Nat × Nat × Nat)} (h : Told L l) (hs : ∀ x ∈ m, x ∈ l) : Told L m := fun x hx => h x (hs x hx)
/-- Each of them is a used block of its page's size. -/
def Sized (H : HS) (l : List (Nat × Nat × Nat)) : Prop := ∀ x ∈ l, ∃ X ∈ H.B, ∃ o ∈ X.L, inRun o.P x.1 = true ∧ o.P.s = x.2.1
theorem Told.kept {H H' : HS} {L L' U : List Nat} {l : List (Nat × Nat × Nat)} (h : Told L l) (hz : Sized H l) (hU : ∀ x ∈ l, x.1 ∈ U) (e : EntK H L H' L' U) : Told L' l ∧ Sized H' l := by
  refine ⟨fun x hx i h1 h2 => ?_, fun x hx => ?_⟩
  · obtain ⟨X, hX, o, ho, hr, hs⟩ := hz x hx
    rw [(e x.1 (hU x hx) X hX o ho hr).2 i h1 (by rw [hs]; exact h2)]
    exact h x hx i h1 h2
  · obtain ⟨X, hX, o, ho, hr, hs⟩ := hz x hx
    obtain ⟨⟨X', hX', o', ho', e1, e2, e3⟩, _⟩ := e x.1 (hU x hx) X hX o ho hr
    exact ⟨X', hX', o', ho', by rw [inRun_same ⟨e1, e2, e3⟩]; exact hr, by rw [e2]; exact hs⟩
end Go.Proofs.YtmjeelnidiijdaaGreatDoor
