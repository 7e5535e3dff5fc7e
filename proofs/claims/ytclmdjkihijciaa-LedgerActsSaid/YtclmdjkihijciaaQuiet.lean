/- A region that draws its order and whose callees may make blocks: one walk in the order of the text, over a class of worlds of one's own. Over whatever program. -/
import Derived.Test.YtclmdjkihijciaaElems
import Derived.BigQuiet
namespace Go.Proofs.Ytclmdjkihijciaa
open Go.RowKit
set_option linter.unusedVariables false

/-- The region's quiet walk (Derived/Deep/Quiet.lean) at the class of the worlds 'W x'. -/
theorem wp_region_quiet_of {P : Program} {E : Type} (W : E → World) {id : Nat} {Q : Exit → Act → World → Prop} {a : Act} {w : World} {l : List Oper} (x0 : E) (h0 : w.drew = W x0) (hm : P.follows .mixedOrders = true) (hB : Region.lexB .any l.toArray = true)
    (h : wpQuiet P l.toArray (fun w' => ∃ n, w' = W n) (fun a' => ∀ w', (∃ n, w' = W n) → Q .normal a' w') l a) : (Code.region id l.toArray true).wp P Q a w :=
  wp_region_quiet (C := fun w' => ∃ n, w' = W n) hm hB ⟨x0, h0⟩ (by simpa using h)
/-- The worlds that meet S, as a class. -/
theorem classOf (S : World → Prop) {w : World} (h : S w.drew) : ∃ (E : Type) (W : E → World) (x0 : E), w.drew = W x0 ∧ (∀ w', S w' → ∃ x, w' = W x) ∧ ∀ x, S (W x) :=
  ⟨{ w' : World // S w' }, Subtype.val, ⟨w.drew, h⟩, rfl, fun w' hw => ⟨⟨w', hw⟩, rfl⟩, fun x => x.2⟩
end Go.Proofs.Ytclmdjkihijciaa
