/-
  NARROWER THAN 'FOR EVERY INPUT', by the rows' own cells (each row's printed sentence says how): HeapActs: laid · HeapApart: laid · HeapBack: laid.
  DERIVED. THE GIVEN ROWS OF THIS SEAT. 3 by the template 'for every input the law returns true; each argument reads behind the call as it read before'; 0 by the template 'total and deterministic' (their statements: YtmjeelnidiijdaaGreatDoorTotals.lean).
  GIVEN WITH THE SEED: the statements are not yours to turn. If you find one false, say at which input.
  Laid BY PROGRAM, IN A SANDBOX (cutbox-rows.mjs): the forced cells as the released guide's own fill.sh prints them over the translation a1e9140222c02051… (all of the seat's roots in one cut). By AI agents, Wed Nov 11 2026. No macro, syntax, notation, axiom, sorry.
-/
import Derived.Test.YtmjeelnidiijdaaGreatDoorChecked
import GoSem.Claim
import GoSem.ClaimJoined
import GoSem.ClaimMapViews
import Derived.JoinedTies
import Derived.KernelRfl
namespace Go.Proofs.YtmjeelnidiijdaaGreatDoor
/- THE CELL 'sum', in the pinned program and in every row, IS THE sha256 OF THE DUMP (.gsa) THAT YtmjeelnidiijdaaGreatDoorProg.lean LOADS. Nothing in Lean hashes anything: it is a label: what it is worth is what the hold of that sum in a sandbox is worth. -/
noncomputable def Tryz.pinned : Pinned := { name := "ytmjeelnidiijdaagreatdoor", sum := "a1e9140222c02051c33c5f06a238927364d87cd90b1bf23b02bdeac2d41451f4", checked := Tryz.checked }
namespace Rows
def none {H : Type} : Left H := { results := [], args := [] }

/- WHAT THE LISTED PACKAGE-LEVEL VARIABLES READ AS WHEN THE CALL BEGINS. Each datum BY PROGRAM (the guide's laid-datum.mjs) off the statement by which the dump's own 'gosem.cut.vars' lays the variable. In a bare row this is a premise. The card (YtmjeelnidiijdaaGreatDoorCards.lean) ties it to the program's text. -/
def laid_allotment_class_sizes {H : Type} : DataW H := .agg [.lit (.int .u64 16), .lit (.int .u64 32), .lit (.int .u64 48), .lit (.int .u64 64), .lit (.int .u64 96), .lit (.int .u64 128), .lit (.int .u64 192), .lit (.int .u64 256), .lit (.int .u64 384), .lit (.int .u64 512), .lit (.int .u64 768), .lit (.int .u64 1024)]

/-- 'allotmentlaw12.HeapActs': WHATEVER THE INPUT: true; the input reads as it did. -/
def heapActsSpec : ChangeSpec := { name := "heapActs", fn := fun _ => fun
  | [d] => { results := [.lit (.bool true)], args := [d] }
  | _ => none }
def heapActsRow : OpenClaim := { program := "ytmjeelnidiijdaagreatdoor", sum := "a1e9140222c02051c33c5f06a238927364d87cd90b1bf23b02bdeac2d41451f4", func := "allotment/allotmentlaw12.HeapActs", spec := "heapActs", unfollowed := true, recurses := true, named := ["allotment/class.sizes"], apart := false, laid := [("allotment/class.sizes", laid_allotment_class_sizes)] }
def HeapActsSaid : Prop := heapActsRow.holds Tryz.pinned (OpenSpec.ofChange heapActsSpec)

/-- ITS FALSE NEIGHBOUR: 'it returns false'. Refute it at one input. -/
def heapActsWrong : ChangeSpec := { name := "heapActs", fn := fun _ => fun
  | [d] => { results := [.lit (.bool false)], args := [d] }
  | _ => none }
def HeapActsWrongFalsely : Prop := heapActsRow.holds Tryz.pinned (OpenSpec.ofChange heapActsWrong)

/-- 'allotmentlaw12.HeapApart': WHATEVER THE INPUT: true; the input reads as it did. -/
def heapApartSpec : ChangeSpec := { name := "heapApart", fn := fun _ => fun
  | [d] => { results := [.lit (.bool true)], args := [d] }
  | _ => none }
def heapApartRow : OpenClaim := { program := "ytmjeelnidiijdaagreatdoor", sum := "a1e9140222c02051c33c5f06a238927364d87cd90b1bf23b02bdeac2d41451f4", func := "allotment/allotmentlaw12.HeapApart", spec := "heapApart", unfollowed := true, recurses := true, named := ["allotment/class.sizes"], apart := false, laid := [("allotment/class.sizes", laid_allotment_class_sizes)] }
def HeapApartSaid : Prop := heapApartRow.holds Tryz.pinned (OpenSpec.ofChange heapApartSpec)

/-- ITS FALSE NEIGHBOUR: 'it returns false'. Refute it at one input. -/
def heapApartWrong : ChangeSpec := { name := "heapApart", fn := fun _ => fun
  | [d] => { results := [.lit (.bool false)], args := [d] }
  | _ => none }
def HeapApartWrongFalsely : Prop := heapApartRow.holds Tryz.pinned (OpenSpec.ofChange heapApartWrong)

/-- 'allotmentlaw12.HeapBack': WHATEVER THE INPUT: true; the input reads as it did. -/
def heapBackSpec : ChangeSpec := { name := "heapBack", fn := fun _ => fun
  | [d1, d2] => { results := [.lit (.bool true)], args := [d1, d2] }
  | _ => none }
def heapBackRow : OpenClaim := { program := "ytmjeelnidiijdaagreatdoor", sum := "a1e9140222c02051c33c5f06a238927364d87cd90b1bf23b02bdeac2d41451f4", func := "allotment/allotmentlaw12.HeapBack", spec := "heapBack", unfollowed := true, recurses := true, named := ["allotment/class.sizes"], apart := false, laid := [("allotment/class.sizes", laid_allotment_class_sizes)] }
def HeapBackSaid : Prop := heapBackRow.holds Tryz.pinned (OpenSpec.ofChange heapBackSpec)

/-- ITS FALSE NEIGHBOUR: 'it returns false'. Refute it at one input. -/
def heapBackWrong : ChangeSpec := { name := "heapBack", fn := fun _ => fun
  | [d1, d2] => { results := [.lit (.bool false)], args := [d1, d2] }
  | _ => none }
def HeapBackWrongFalsely : Prop := heapBackRow.holds Tryz.pinned (OpenSpec.ofChange heapBackWrong)

/- THE SECOND FORM. 'bulk': how many values and letters a reading holds, each counted each time it is reached (what is shared counts as often as it is met; a slice's spare places count too). A statement '..UptoSaid' is the law's where the arguments, and the package variables that the reading takes, are together of bulk at most 1048576: NARROWER than '..Said'. Prove '..Said' where nothing that the law and all that it calls make is longer than what came in: it says more and counts as full. Else prove '..UptoSaid'. A law counts once. -/
mutual
def uptoBulk {H : Type} : DataW H → Nat
  | .lit (.string bytes) => bytes.length + 1
  | .lit _ => 1
  | .nil => 1
  | .ptr d => uptoBulk d + 1
  | .slice elems spare => uptoBulkAll elems + uptoBulkAll spare + 1
  | .agg parts => uptoBulkAll parts + 1
  | .iface _ d => uptoBulk d + 1
  | .map entries => uptoBulkEntries entries + 1
  | .held _ => 1
def uptoBulkAll {H : Type} : List (DataW H) → Nat
  | [] => 0
  | d :: r => uptoBulk d + uptoBulkAll r
def uptoBulkEntries {H : Type} : List (Lit × DataW H) → Nat
  | [] => 0
  | x :: r => uptoBulkEntry x + uptoBulkEntries r
def uptoBulkEntry {H : Type} : Lit × DataW H → Nat
  | (.string bytes, d) => bytes.length + uptoBulk d + 1
  | (_, d) => uptoBulk d + 1
 end
def uptoSmall : (H : Type) → List (DataW H) → Bool := fun _ ds => decide (uptoBulkAll ds ≤ 1048576)
def OpenSpec.upto (s : _root_.Go.ChangeSpec) : _root_.Go.OpenSpec := { _root_.Go.OpenSpec.ofChange s with cond := some uptoSmall }

/-- 'allotmentlaw12.HeapActs', WHERE WHAT IT READS IS OF BULK AT MOST 1048576: true; the input reads as it did. -/
def heapActsUptoRow : OpenClaim := { program := "ytmjeelnidiijdaagreatdoor", sum := "a1e9140222c02051c33c5f06a238927364d87cd90b1bf23b02bdeac2d41451f4", func := "allotment/allotmentlaw12.HeapActs", spec := "heapActs", unfollowed := true, recurses := true, named := ["allotment/class.sizes"], apart := false, laid := [("allotment/class.sizes", laid_allotment_class_sizes)], narrowed := true }
def HeapActsUptoSaid : Prop := heapActsUptoRow.holds Tryz.pinned (OpenSpec.upto heapActsSpec)

/-- 'allotmentlaw12.HeapApart', WHERE WHAT IT READS IS OF BULK AT MOST 1048576: true; the input reads as it did. -/
def heapApartUptoRow : OpenClaim := { program := "ytmjeelnidiijdaagreatdoor", sum := "a1e9140222c02051c33c5f06a238927364d87cd90b1bf23b02bdeac2d41451f4", func := "allotment/allotmentlaw12.HeapApart", spec := "heapApart", unfollowed := true, recurses := true, named := ["allotment/class.sizes"], apart := false, laid := [("allotment/class.sizes", laid_allotment_class_sizes)], narrowed := true }
def HeapApartUptoSaid : Prop := heapApartUptoRow.holds Tryz.pinned (OpenSpec.upto heapApartSpec)

/-- 'allotmentlaw12.HeapBack', WHERE WHAT IT READS IS OF BULK AT MOST 1048576: true; the input reads as it did. -/
def heapBackUptoRow : OpenClaim := { program := "ytmjeelnidiijdaagreatdoor", sum := "a1e9140222c02051c33c5f06a238927364d87cd90b1bf23b02bdeac2d41451f4", func := "allotment/allotmentlaw12.HeapBack", spec := "heapBack", unfollowed := true, recurses := true, named := ["allotment/class.sizes"], apart := false, laid := [("allotment/class.sizes", laid_allotment_class_sizes)], narrowed := true }
def HeapBackUptoSaid : Prop := heapBackUptoRow.holds Tryz.pinned (OpenSpec.upto heapBackSpec)

end Rows
end Go.Proofs.YtmjeelnidiijdaaGreatDoor
