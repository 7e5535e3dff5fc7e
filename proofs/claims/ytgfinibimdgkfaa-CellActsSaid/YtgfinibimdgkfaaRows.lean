/-
  No cell of these rows narrows 'for every input' (looked for: loops, veiled, ifaces, maps, wideKeys, modest, calm, conditions, laid).
  DERIVED. THE GIVEN ROWS OF THIS SEAT. 5 by the template 'for every input the law returns true; each argument reads behind the call as it read before'; 0 by the template 'total and deterministic' (their statements: YtgfinibimdgkfaaTotals.lean).
  GIVEN WITH THE SEED: the statements are not yours to turn. If you find one false, say at which input.
  Laid BY PROGRAM, IN A SANDBOX (cutbox-rows.mjs): the forced cells as the released guide's own fill.sh prints them over the translation 5891a97585ee3eb7… (all of the seat's roots in one cut). By AI agents, Wed Nov 11 2026. No macro, syntax, notation, axiom, sorry.
-/
import Derived.Test.YtgfinibimdgkfaaChecked
import GoSem.Claim
import GoSem.ClaimJoined
import GoSem.ClaimMapViews
import Derived.JoinedTies
import Derived.KernelRfl
namespace Go.Proofs.Ytgfinibimdgkfaa
/- THE CELL 'sum', in the pinned program and in every row, IS THE sha256 OF THE DUMP (.gsa) THAT YtgfinibimdgkfaaProg.lean LOADS. Nothing in Lean hashes anything: it is a label: what it is worth is what the hold of that sum in a sandbox is worth. -/
noncomputable def Try.pinned : Pinned := { name := "ytgfinibimdgkfaa", sum := "5891a97585ee3eb7477760d124e4768e4be918a61cbddb70971efa62995456d3", checked := Try.checked }
namespace Rows
def none {H : Type} : Left H := { results := [], args := [] }

/-- 'allotmentlaw08.CellActs': WHATEVER THE INPUT: true; the input reads as it did. -/
def cellActsSpec : ChangeSpec := { name := "cellActs", fn := fun _ => fun
  | [d] => { results := [.lit (.bool true)], args := [d] }
  | _ => none }
def cellActsRow : OpenClaim := { program := "ytgfinibimdgkfaa", sum := "5891a97585ee3eb7477760d124e4768e4be918a61cbddb70971efa62995456d3", func := "allotment/allotmentlaw08.CellActs", spec := "cellActs", apart := false }
def CellActsSaid : Prop := cellActsRow.holds Try.pinned (OpenSpec.ofChange cellActsSpec)

/-- ITS FALSE NEIGHBOUR: 'it returns false'. Refute it at one input. -/
def cellActsWrong : ChangeSpec := { name := "cellActs", fn := fun _ => fun
  | [d] => { results := [.lit (.bool false)], args := [d] }
  | _ => none }
def CellActsWrongFalsely : Prop := cellActsRow.holds Try.pinned (OpenSpec.ofChange cellActsWrong)

/-- 'allotmentlaw08.CellFirst': WHATEVER THE INPUT: true; the input reads as it did. -/
def cellFirstSpec : ChangeSpec := { name := "cellFirst", fn := fun _ => fun
  | [d1, d2, d3] => { results := [.lit (.bool true)], args := [d1, d2, d3] }
  | _ => none }
def cellFirstRow : OpenClaim := { program := "ytgfinibimdgkfaa", sum := "5891a97585ee3eb7477760d124e4768e4be918a61cbddb70971efa62995456d3", func := "allotment/allotmentlaw08.CellFirst", spec := "cellFirst", apart := false }
def CellFirstSaid : Prop := cellFirstRow.holds Try.pinned (OpenSpec.ofChange cellFirstSpec)

/-- ITS FALSE NEIGHBOUR: 'it returns false'. Refute it at one input. -/
def cellFirstWrong : ChangeSpec := { name := "cellFirst", fn := fun _ => fun
  | [d1, d2, d3] => { results := [.lit (.bool false)], args := [d1, d2, d3] }
  | _ => none }
def CellFirstWrongFalsely : Prop := cellFirstRow.holds Try.pinned (OpenSpec.ofChange cellFirstWrong)

/-- 'allotmentlaw08.CellTags': WHATEVER THE INPUT: true; the input reads as it did. -/
def cellTagsSpec : ChangeSpec := { name := "cellTags", fn := fun _ => fun
  | [d] => { results := [.lit (.bool true)], args := [d] }
  | _ => none }
def cellTagsRow : OpenClaim := { program := "ytgfinibimdgkfaa", sum := "5891a97585ee3eb7477760d124e4768e4be918a61cbddb70971efa62995456d3", func := "allotment/allotmentlaw08.CellTags", spec := "cellTags", apart := false }
def CellTagsSaid : Prop := cellTagsRow.holds Try.pinned (OpenSpec.ofChange cellTagsSpec)

/-- ITS FALSE NEIGHBOUR: 'it returns false'. Refute it at one input. -/
def cellTagsWrong : ChangeSpec := { name := "cellTags", fn := fun _ => fun
  | [d] => { results := [.lit (.bool false)], args := [d] }
  | _ => none }
def CellTagsWrongFalsely : Prop := cellTagsRow.holds Try.pinned (OpenSpec.ofChange cellTagsWrong)

/-- 'allotmentlaw08.CellStack': WHATEVER THE INPUT: true; the input reads as it did. -/
def cellStackSpec : ChangeSpec := { name := "cellStack", fn := fun _ => fun
  | [d1, d2] => { results := [.lit (.bool true)], args := [d1, d2] }
  | _ => none }
def cellStackRow : OpenClaim := { program := "ytgfinibimdgkfaa", sum := "5891a97585ee3eb7477760d124e4768e4be918a61cbddb70971efa62995456d3", func := "allotment/allotmentlaw08.CellStack", spec := "cellStack", apart := false }
def CellStackSaid : Prop := cellStackRow.holds Try.pinned (OpenSpec.ofChange cellStackSpec)

/-- ITS FALSE NEIGHBOUR: 'it returns false'. Refute it at one input. -/
def cellStackWrong : ChangeSpec := { name := "cellStack", fn := fun _ => fun
  | [d1, d2] => { results := [.lit (.bool false)], args := [d1, d2] }
  | _ => none }
def CellStackWrongFalsely : Prop := cellStackRow.holds Try.pinned (OpenSpec.ofChange cellStackWrong)

/-- 'allotmentlaw08.CellSwaps': WHATEVER THE INPUT: true; the input reads as it did. -/
def cellSwapsSpec : ChangeSpec := { name := "cellSwaps", fn := fun _ => fun
  | [d] => { results := [.lit (.bool true)], args := [d] }
  | _ => none }
def cellSwapsRow : OpenClaim := { program := "ytgfinibimdgkfaa", sum := "5891a97585ee3eb7477760d124e4768e4be918a61cbddb70971efa62995456d3", func := "allotment/allotmentlaw08.CellSwaps", spec := "cellSwaps", apart := false }
def CellSwapsSaid : Prop := cellSwapsRow.holds Try.pinned (OpenSpec.ofChange cellSwapsSpec)

/-- ITS FALSE NEIGHBOUR: 'it returns false'. Refute it at one input. -/
def cellSwapsWrong : ChangeSpec := { name := "cellSwaps", fn := fun _ => fun
  | [d] => { results := [.lit (.bool false)], args := [d] }
  | _ => none }
def CellSwapsWrongFalsely : Prop := cellSwapsRow.holds Try.pinned (OpenSpec.ofChange cellSwapsWrong)

/- THE SECOND FORM. 'bulk': how many values and letters a reading holds, each counted each time it is reached (what is shared counts as often as it is met; a slice's spare places count too). A statement '..UptoSaid' is the law's where the arguments, and the package variables that the reading takes, are together of bulk at most 1048576: NARROWER than '..Said'. Prove '..Said' where nothing that the law and all that it calls make is longer than what came in: it says more and counts as full. Else prove '..UptoSaid'. A law counts once. -/
mutual
def uptoBulk {H : Type} : DataW H → Nat
  | .lit (.string bytes) => bytes.length + 1
  | .lit _ => 1
  | .nil => 1
  | .ptr d => uptoBulk d + 1
  | .slice elems spare => uptoBulkAll elems + uptoBulkAll spare + 1
  | .agg parts => uptoBulkAll parts + 1
  | .iface _ d => uptoBulk d + 1
  | .map entries => uptoBulkEntries entries + 1
  | .held _ => 1
def uptoBulkAll {H : Type} : List (DataW H) → Nat
  | [] => 0
  | d :: r => uptoBulk d + uptoBulkAll r
def uptoBulkEntries {H : Type} : List (Lit × DataW H) → Nat
  | [] => 0
  | x :: r => uptoBulkEntry x + uptoBulkEntries r
def uptoBulkEntry {H : Type} : Lit × DataW H → Nat
  | (.string bytes, d) => bytes.length + uptoBulk d + 1
  | (_, d) => uptoBulk d + 1
 end
def uptoSmall : (H : Type) → List (DataW H) → Bool := fun _ ds => decide (uptoBulkAll ds ≤ 1048576)
def OpenSpec.upto (s : _root_.Go.ChangeSpec) : _root_.Go.OpenSpec := { _root_.Go.OpenSpec.ofChange s with cond := some uptoSmall }

/-- 'allotmentlaw08.CellActs', WHERE WHAT IT READS IS OF BULK AT MOST 1048576: true; the input reads as it did. -/
def cellActsUptoRow : OpenClaim := { program := "ytgfinibimdgkfaa", sum := "5891a97585ee3eb7477760d124e4768e4be918a61cbddb70971efa62995456d3", func := "allotment/allotmentlaw08.CellActs", spec := "cellActs", apart := false, narrowed := true }
def CellActsUptoSaid : Prop := cellActsUptoRow.holds Try.pinned (OpenSpec.upto cellActsSpec)

/-- 'allotmentlaw08.CellFirst', WHERE WHAT IT READS IS OF BULK AT MOST 1048576: true; the input reads as it did. -/
def cellFirstUptoRow : OpenClaim := { program := "ytgfinibimdgkfaa", sum := "5891a97585ee3eb7477760d124e4768e4be918a61cbddb70971efa62995456d3", func := "allotment/allotmentlaw08.CellFirst", spec := "cellFirst", apart := false, narrowed := true }
def CellFirstUptoSaid : Prop := cellFirstUptoRow.holds Try.pinned (OpenSpec.upto cellFirstSpec)

/-- 'allotmentlaw08.CellTags', WHERE WHAT IT READS IS OF BULK AT MOST 1048576: true; the input reads as it did. -/
def cellTagsUptoRow : OpenClaim := { program := "ytgfinibimdgkfaa", sum := "5891a97585ee3eb7477760d124e4768e4be918a61cbddb70971efa62995456d3", func := "allotment/allotmentlaw08.CellTags", spec := "cellTags", apart := false, narrowed := true }
def CellTagsUptoSaid : Prop := cellTagsUptoRow.holds Try.pinned (OpenSpec.upto cellTagsSpec)

/-- 'allotmentlaw08.CellStack', WHERE WHAT IT READS IS OF BULK AT MOST 1048576: true; the input reads as it did. -/
def cellStackUptoRow : OpenClaim := { program := "ytgfinibimdgkfaa", sum := "5891a97585ee3eb7477760d124e4768e4be918a61cbddb70971efa62995456d3", func := "allotment/allotmentlaw08.CellStack", spec := "cellStack", apart := false, narrowed := true }
def CellStackUptoSaid : Prop := cellStackUptoRow.holds Try.pinned (OpenSpec.upto cellStackSpec)

/-- 'allotmentlaw08.CellSwaps', WHERE WHAT IT READS IS OF BULK AT MOST 1048576: true; the input reads as it did. -/
def cellSwapsUptoRow : OpenClaim := { program := "ytgfinibimdgkfaa", sum := "5891a97585ee3eb7477760d124e4768e4be918a61cbddb70971efa62995456d3", func := "allotment/allotmentlaw08.CellSwaps", spec := "cellSwaps", apart := false, narrowed := true }
def CellSwapsUptoSaid : Prop := cellSwapsUptoRow.holds Try.pinned (OpenSpec.upto cellSwapsSpec)

end Rows
end Go.Proofs.Ytgfinibimdgkfaa
