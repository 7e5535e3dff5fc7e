/-
  No cell of these rows narrows 'for every input' (looked for: loops, veiled, ifaces, maps, wideKeys, modest, calm, conditions, laid).
  DERIVED. THE GIVEN ROWS OF THIS SEAT. 6 by the template 'for every input the law returns true; each argument reads behind the call as it read before'; 0 by the template 'total and deterministic' (their statements: YtgaecgijmnkdgaaTotals.lean).
  GIVEN WITH THE SEED: the statements are not yours to turn. If you find one false, say at which input.
  Laid BY PROGRAM, IN A SANDBOX (cutbox-rows.mjs): the forced cells as the released guide's own fill.sh prints them over the translation bca591c6742e5189… (all of the seat's roots in one cut). By AI agents, Wed Nov 11 2026. No macro, syntax, notation, axiom, sorry.
-/
import Derived.Test.YtgaecgijmnkdgaaChecked
import GoSem.Claim
import GoSem.ClaimJoined
import GoSem.ClaimMapViews
import Derived.JoinedTies
import Derived.KernelRfl
namespace Go.Proofs.Ytgaecgijmnkdgaa
/- THE CELL 'sum', in the pinned program and in every row, IS THE sha256 OF THE DUMP (.gsa) THAT YtgaecgijmnkdgaaProg.lean LOADS. Nothing in Lean hashes anything: it is a label: what it is worth is what the hold of that sum in a sandbox is worth. -/
noncomputable def Try.pinned : Pinned := { name := "ytgaecgijmnkdgaa", sum := "bca591c6742e51890a1034b799df7ec912756361053879a21c2cda4af08e8d3a", checked := Try.checked }
namespace Rows
def none {H : Type} : Left H := { results := [], args := [] }

/-- 'allotmentlaw13.StackMoves': WHATEVER THE INPUT: true; the input reads as it did. -/
def stackMovesSpec : ChangeSpec := { name := "stackMoves", fn := fun _ => fun
  | [d] => { results := [.lit (.bool true)], args := [d] }
  | _ => none }
def stackMovesRow : OpenClaim := { program := "ytgaecgijmnkdgaa", sum := "bca591c6742e51890a1034b799df7ec912756361053879a21c2cda4af08e8d3a", func := "allotment/allotmentlaw13.StackMoves", spec := "stackMoves", apart := false }
def StackMovesSaid : Prop := stackMovesRow.holds Try.pinned (OpenSpec.ofChange stackMovesSpec)

/-- ITS FALSE NEIGHBOUR: 'it returns false'. Refute it at one input. -/
def stackMovesWrong : ChangeSpec := { name := "stackMoves", fn := fun _ => fun
  | [d] => { results := [.lit (.bool false)], args := [d] }
  | _ => none }
def StackMovesWrongFalsely : Prop := stackMovesRow.holds Try.pinned (OpenSpec.ofChange stackMovesWrong)

/-- 'allotmentlaw13.StackOnce': WHATEVER THE INPUT: true; the input reads as it did. -/
def stackOnceSpec : ChangeSpec := { name := "stackOnce", fn := fun _ => fun
  | [d1, d2, d3] => { results := [.lit (.bool true)], args := [d1, d2, d3] }
  | _ => none }
def stackOnceRow : OpenClaim := { program := "ytgaecgijmnkdgaa", sum := "bca591c6742e51890a1034b799df7ec912756361053879a21c2cda4af08e8d3a", func := "allotment/allotmentlaw13.StackOnce", spec := "stackOnce", apart := false }
def StackOnceSaid : Prop := stackOnceRow.holds Try.pinned (OpenSpec.ofChange stackOnceSpec)

/-- ITS FALSE NEIGHBOUR: 'it returns false'. Refute it at one input. -/
def stackOnceWrong : ChangeSpec := { name := "stackOnce", fn := fun _ => fun
  | [d1, d2, d3] => { results := [.lit (.bool false)], args := [d1, d2, d3] }
  | _ => none }
def StackOnceWrongFalsely : Prop := stackOnceRow.holds Try.pinned (OpenSpec.ofChange stackOnceWrong)

/-- 'allotmentlaw13.StackSteps': WHATEVER THE INPUT: true; the input reads as it did. -/
def stackStepsSpec : ChangeSpec := { name := "stackSteps", fn := fun _ => fun
  | [d] => { results := [.lit (.bool true)], args := [d] }
  | _ => none }
def stackStepsRow : OpenClaim := { program := "ytgaecgijmnkdgaa", sum := "bca591c6742e51890a1034b799df7ec912756361053879a21c2cda4af08e8d3a", func := "allotment/allotmentlaw13.StackSteps", spec := "stackSteps", apart := false }
def StackStepsSaid : Prop := stackStepsRow.holds Try.pinned (OpenSpec.ofChange stackStepsSpec)

/-- ITS FALSE NEIGHBOUR: 'it returns false'. Refute it at one input. -/
def stackStepsWrong : ChangeSpec := { name := "stackSteps", fn := fun _ => fun
  | [d] => { results := [.lit (.bool false)], args := [d] }
  | _ => none }
def StackStepsWrongFalsely : Prop := stackStepsRow.holds Try.pinned (OpenSpec.ofChange stackStepsWrong)

/-- 'allotmentlaw13.StackLast': WHATEVER THE INPUT: true; the input reads as it did. -/
def stackLastSpec : ChangeSpec := { name := "stackLast", fn := fun _ => fun
  | [d] => { results := [.lit (.bool true)], args := [d] }
  | _ => none }
def stackLastRow : OpenClaim := { program := "ytgaecgijmnkdgaa", sum := "bca591c6742e51890a1034b799df7ec912756361053879a21c2cda4af08e8d3a", func := "allotment/allotmentlaw13.StackLast", spec := "stackLast", apart := false }
def StackLastSaid : Prop := stackLastRow.holds Try.pinned (OpenSpec.ofChange stackLastSpec)

/-- ITS FALSE NEIGHBOUR: 'it returns false'. Refute it at one input. -/
def stackLastWrong : ChangeSpec := { name := "stackLast", fn := fun _ => fun
  | [d] => { results := [.lit (.bool false)], args := [d] }
  | _ => none }
def StackLastWrongFalsely : Prop := stackLastRow.holds Try.pinned (OpenSpec.ofChange stackLastWrong)

/-- 'allotmentlaw13.StackLate': WHATEVER THE INPUT: true; the input reads as it did. -/
def stackLateSpec : ChangeSpec := { name := "stackLate", fn := fun _ => fun
  | [d1, d2] => { results := [.lit (.bool true)], args := [d1, d2] }
  | _ => none }
def stackLateRow : OpenClaim := { program := "ytgaecgijmnkdgaa", sum := "bca591c6742e51890a1034b799df7ec912756361053879a21c2cda4af08e8d3a", func := "allotment/allotmentlaw13.StackLate", spec := "stackLate", apart := false }
def StackLateSaid : Prop := stackLateRow.holds Try.pinned (OpenSpec.ofChange stackLateSpec)

/-- ITS FALSE NEIGHBOUR: 'it returns false'. Refute it at one input. -/
def stackLateWrong : ChangeSpec := { name := "stackLate", fn := fun _ => fun
  | [d1, d2] => { results := [.lit (.bool false)], args := [d1, d2] }
  | _ => none }
def StackLateWrongFalsely : Prop := stackLateRow.holds Try.pinned (OpenSpec.ofChange stackLateWrong)

/-- 'allotmentlaw13.StackTwice': WHATEVER THE INPUT: true; the input reads as it did. -/
def stackTwiceSpec : ChangeSpec := { name := "stackTwice", fn := fun _ => fun
  | [d] => { results := [.lit (.bool true)], args := [d] }
  | _ => none }
def stackTwiceRow : OpenClaim := { program := "ytgaecgijmnkdgaa", sum := "bca591c6742e51890a1034b799df7ec912756361053879a21c2cda4af08e8d3a", func := "allotment/allotmentlaw13.StackTwice", spec := "stackTwice", apart := false }
def StackTwiceSaid : Prop := stackTwiceRow.holds Try.pinned (OpenSpec.ofChange stackTwiceSpec)

/-- ITS FALSE NEIGHBOUR: 'it returns false'. Refute it at one input. -/
def stackTwiceWrong : ChangeSpec := { name := "stackTwice", fn := fun _ => fun
  | [d] => { results := [.lit (.bool false)], args := [d] }
  | _ => none }
def StackTwiceWrongFalsely : Prop := stackTwiceRow.holds Try.pinned (OpenSpec.ofChange stackTwiceWrong)

/- THE SECOND FORM. 'bulk': how many values and letters a reading holds, each counted each time it is reached (what is shared counts as often as it is met; a slice's spare places count too). A statement '..UptoSaid' is the law's where the arguments, and the package variables that the reading takes, are together of bulk at most 1048576: NARROWER than '..Said'. Prove '..Said' where nothing that the law and all that it calls make is longer than what came in: it says more and counts as full. Else prove '..UptoSaid'. A law counts once. -/
mutual
def uptoBulk {H : Type} : DataW H → Nat
  | .lit (.string bytes) => bytes.length + 1
  | .lit _ => 1
  | .nil => 1
  | .ptr d => uptoBulk d + 1
  | .slice elems spare => uptoBulkAll elems + uptoBulkAll spare + 1
  | .agg parts => uptoBulkAll parts + 1
  | .iface _ d => uptoBulk d + 1
  | .map entries => uptoBulkEntries entries + 1
  | .held _ => 1
def uptoBulkAll {H : Type} : List (DataW H) → Nat
  | [] => 0
  | d :: r => uptoBulk d + uptoBulkAll r
def uptoBulkEntries {H : Type} : List (Lit × DataW H) → Nat
  | [] => 0
  | x :: r => uptoBulkEntry x + uptoBulkEntries r
def uptoBulkEntry {H : Type} : Lit × DataW H → Nat
  | (.string bytes, d) => bytes.length + uptoBulk d + 1
  | (_, d) => uptoBulk d + 1
 end
def uptoSmall : (H : Type) → List (DataW H) → Bool := fun _ ds => decide (uptoBulkAll ds ≤ 1048576)
def OpenSpec.upto (s : _root_.Go.ChangeSpec) : _root_.Go.OpenSpec := { _root_.Go.OpenSpec.ofChange s with cond := some uptoSmall }

/-- 'allotmentlaw13.StackMoves', WHERE WHAT IT READS IS OF BULK AT MOST 1048576: true; the input reads as it did. -/
def stackMovesUptoRow : OpenClaim := { program := "ytgaecgijmnkdgaa", sum := "bca591c6742e51890a1034b799df7ec912756361053879a21c2cda4af08e8d3a", func := "allotment/allotmentlaw13.StackMoves", spec := "stackMoves", apart := false, narrowed := true }
def StackMovesUptoSaid : Prop := stackMovesUptoRow.holds Try.pinned (OpenSpec.upto stackMovesSpec)

/-- 'allotmentlaw13.StackOnce', WHERE WHAT IT READS IS OF BULK AT MOST 1048576: true; the input reads as it did. -/
def stackOnceUptoRow : OpenClaim := { program := "ytgaecgijmnkdgaa", sum := "bca591c6742e51890a1034b799df7ec912756361053879a21c2cda4af08e8d3a", func := "allotment/allotmentlaw13.StackOnce", spec := "stackOnce", apart := false, narrowed := true }
def StackOnceUptoSaid : Prop := stackOnceUptoRow.holds Try.pinned (OpenSpec.upto stackOnceSpec)

/-- 'allotmentlaw13.StackSteps', WHERE WHAT IT READS IS OF BULK AT MOST 1048576: true; the input reads as it did. -/
def stackStepsUptoRow : OpenClaim := { program := "ytgaecgijmnkdgaa", sum := "bca591c6742e51890a1034b799df7ec912756361053879a21c2cda4af08e8d3a", func := "allotment/allotmentlaw13.StackSteps", spec := "stackSteps", apart := false, narrowed := true }
def StackStepsUptoSaid : Prop := stackStepsUptoRow.holds Try.pinned (OpenSpec.upto stackStepsSpec)

/-- 'allotmentlaw13.StackLast', WHERE WHAT IT READS IS OF BULK AT MOST 1048576: true; the input reads as it did. -/
def stackLastUptoRow : OpenClaim := { program := "ytgaecgijmnkdgaa", sum := "bca591c6742e51890a1034b799df7ec912756361053879a21c2cda4af08e8d3a", func := "allotment/allotmentlaw13.StackLast", spec := "stackLast", apart := false, narrowed := true }
def StackLastUptoSaid : Prop := stackLastUptoRow.holds Try.pinned (OpenSpec.upto stackLastSpec)

/-- 'allotmentlaw13.StackLate', WHERE WHAT IT READS IS OF BULK AT MOST 1048576: true; the input reads as it did. -/
def stackLateUptoRow : OpenClaim := { program := "ytgaecgijmnkdgaa", sum := "bca591c6742e51890a1034b799df7ec912756361053879a21c2cda4af08e8d3a", func := "allotment/allotmentlaw13.StackLate", spec := "stackLate", apart := false, narrowed := true }
def StackLateUptoSaid : Prop := stackLateUptoRow.holds Try.pinned (OpenSpec.upto stackLateSpec)

/-- 'allotmentlaw13.StackTwice', WHERE WHAT IT READS IS OF BULK AT MOST 1048576: true; the input reads as it did. -/
def stackTwiceUptoRow : OpenClaim := { program := "ytgaecgijmnkdgaa", sum := "bca591c6742e51890a1034b799df7ec912756361053879a21c2cda4af08e8d3a", func := "allotment/allotmentlaw13.StackTwice", spec := "stackTwice", apart := false, narrowed := true }
def StackTwiceUptoSaid : Prop := stackTwiceUptoRow.holds Try.pinned (OpenSpec.upto stackTwiceSpec)

end Rows
end Go.Proofs.Ytgaecgijmnkdgaa
