/-
  NARROWER THAN 'FOR EVERY INPUT', by the rows' own cells (each row's printed sentence says how): ClassTables: laid · ClassPlans: laid · ClassEnough: laid · ClassFits: laid · ClassMore: laid · ClassRefuses: laid · ClassWaste: laid.
  DERIVED. THE GIVEN ROWS OF THIS SEAT. 7 by the template 'for every input the law returns true; each argument reads behind the call as it read before'; 0 by the template 'total and deterministic' (their statements: YthblggnjfmgonaaDoorTotals.lean).
  GIVEN WITH THE SEED: the statements are not yours to turn. If you find one false, say at which input.
  Laid BY PROGRAM, IN A SANDBOX (cutbox-rows.mjs): the forced cells as the released guide's own fill.sh prints them over the translation 1004c3a951aa0b07… (all of the seat's roots in one cut). By AI agents, Wed Nov 11 2026. No macro, syntax, notation, axiom, sorry.
-/
import Derived.Test.YthblggnjfmgonaaDoorChecked
import GoSem.Claim
import GoSem.ClaimJoined
import GoSem.ClaimMapViews
import Derived.JoinedTies
import Derived.KernelRfl
namespace Go.Proofs.YthblggnjfmgonaaDoor
/- THE CELL 'sum', in the pinned program and in every row, IS THE sha256 OF THE DUMP (.gsa) THAT YthblggnjfmgonaaDoorProg.lean LOADS. Nothing in Lean hashes anything: it is a label: what it is worth is what the hold of that sum in a sandbox is worth. -/
noncomputable def Tryd.pinned : Pinned := { name := "ythblggnjfmgonaadoor", sum := "1004c3a951aa0b07a47fd9bfa848ac372e5a1f5c55b201edaaf8d2758522e8f0", checked := Tryd.checked }
namespace Rows
def none {H : Type} : Left H := { results := [], args := [] }

/- WHAT THE LISTED PACKAGE-LEVEL VARIABLES READ AS WHEN THE CALL BEGINS. Each datum BY PROGRAM (the guide's laid-datum.mjs) off the statement by which the dump's own 'gosem.cut.vars' lays the variable. In a bare row this is a premise. The card (YthblggnjfmgonaaDoorCards.lean) ties it to the program's text. -/
def laid_allotment_class_sizes {H : Type} : DataW H := .agg [.lit (.int .u64 16), .lit (.int .u64 32), .lit (.int .u64 48), .lit (.int .u64 64), .lit (.int .u64 96), .lit (.int .u64 128), .lit (.int .u64 192), .lit (.int .u64 256), .lit (.int .u64 384), .lit (.int .u64 512), .lit (.int .u64 768), .lit (.int .u64 1024)]

/-- 'allotmentlaw05.ClassTables': WHATEVER THE INPUT: true; the input reads as it did. -/
def classTablesSpec : ChangeSpec := { name := "classTables", fn := fun _ => fun
  | [d1, d2, d3] => { results := [.lit (.bool true)], args := [d1, d2, d3] }
  | _ => none }
def classTablesRow : OpenClaim := { program := "ythblggnjfmgonaadoor", sum := "1004c3a951aa0b07a47fd9bfa848ac372e5a1f5c55b201edaaf8d2758522e8f0", func := "allotment/allotmentlaw05.ClassTables", spec := "classTables", named := ["allotment/class.sizes"], apart := false, laid := [("allotment/class.sizes", laid_allotment_class_sizes)] }
def ClassTablesSaid : Prop := classTablesRow.holds Tryd.pinned (OpenSpec.ofChange classTablesSpec)

/-- ITS FALSE NEIGHBOUR: 'it returns false'. Refute it at one input. -/
def classTablesWrong : ChangeSpec := { name := "classTables", fn := fun _ => fun
  | [d1, d2, d3] => { results := [.lit (.bool false)], args := [d1, d2, d3] }
  | _ => none }
def ClassTablesWrongFalsely : Prop := classTablesRow.holds Tryd.pinned (OpenSpec.ofChange classTablesWrong)

/-- 'allotmentlaw05.ClassPlans': WHATEVER THE INPUT: true; the input reads as it did. -/
def classPlansSpec : ChangeSpec := { name := "classPlans", fn := fun _ => fun
  | [d1, d2] => { results := [.lit (.bool true)], args := [d1, d2] }
  | _ => none }
def classPlansRow : OpenClaim := { program := "ythblggnjfmgonaadoor", sum := "1004c3a951aa0b07a47fd9bfa848ac372e5a1f5c55b201edaaf8d2758522e8f0", func := "allotment/allotmentlaw05.ClassPlans", spec := "classPlans", named := ["allotment/class.sizes"], apart := false, laid := [("allotment/class.sizes", laid_allotment_class_sizes)] }
def ClassPlansSaid : Prop := classPlansRow.holds Tryd.pinned (OpenSpec.ofChange classPlansSpec)

/-- ITS FALSE NEIGHBOUR: 'it returns false'. Refute it at one input. -/
def classPlansWrong : ChangeSpec := { name := "classPlans", fn := fun _ => fun
  | [d1, d2] => { results := [.lit (.bool false)], args := [d1, d2] }
  | _ => none }
def ClassPlansWrongFalsely : Prop := classPlansRow.holds Tryd.pinned (OpenSpec.ofChange classPlansWrong)

/-- 'allotmentlaw05.ClassEnough': WHATEVER THE INPUT: true; the input reads as it did. -/
def classEnoughSpec : ChangeSpec := { name := "classEnough", fn := fun _ => fun
  | [d1, d2] => { results := [.lit (.bool true)], args := [d1, d2] }
  | _ => none }
def classEnoughRow : OpenClaim := { program := "ythblggnjfmgonaadoor", sum := "1004c3a951aa0b07a47fd9bfa848ac372e5a1f5c55b201edaaf8d2758522e8f0", func := "allotment/allotmentlaw05.ClassEnough", spec := "classEnough", named := ["allotment/class.sizes"], apart := false, laid := [("allotment/class.sizes", laid_allotment_class_sizes)] }
def ClassEnoughSaid : Prop := classEnoughRow.holds Tryd.pinned (OpenSpec.ofChange classEnoughSpec)

/-- ITS FALSE NEIGHBOUR: 'it returns false'. Refute it at one input. -/
def classEnoughWrong : ChangeSpec := { name := "classEnough", fn := fun _ => fun
  | [d1, d2] => { results := [.lit (.bool false)], args := [d1, d2] }
  | _ => none }
def ClassEnoughWrongFalsely : Prop := classEnoughRow.holds Tryd.pinned (OpenSpec.ofChange classEnoughWrong)

/-- 'allotmentlaw05.ClassFits': WHATEVER THE INPUT: true; the input reads as it did. -/
def classFitsSpec : ChangeSpec := { name := "classFits", fn := fun _ => fun
  | [d] => { results := [.lit (.bool true)], args := [d] }
  | _ => none }
def classFitsRow : OpenClaim := { program := "ythblggnjfmgonaadoor", sum := "1004c3a951aa0b07a47fd9bfa848ac372e5a1f5c55b201edaaf8d2758522e8f0", func := "allotment/allotmentlaw05.ClassFits", spec := "classFits", named := ["allotment/class.sizes"], apart := false, laid := [("allotment/class.sizes", laid_allotment_class_sizes)] }
def ClassFitsSaid : Prop := classFitsRow.holds Tryd.pinned (OpenSpec.ofChange classFitsSpec)

/-- ITS FALSE NEIGHBOUR: 'it returns false'. Refute it at one input. -/
def classFitsWrong : ChangeSpec := { name := "classFits", fn := fun _ => fun
  | [d] => { results := [.lit (.bool false)], args := [d] }
  | _ => none }
def ClassFitsWrongFalsely : Prop := classFitsRow.holds Tryd.pinned (OpenSpec.ofChange classFitsWrong)

/-- 'allotmentlaw05.ClassMore': WHATEVER THE INPUT: true; the input reads as it did. -/
def classMoreSpec : ChangeSpec := { name := "classMore", fn := fun _ => fun
  | [d1, d2, d3] => { results := [.lit (.bool true)], args := [d1, d2, d3] }
  | _ => none }
def classMoreRow : OpenClaim := { program := "ythblggnjfmgonaadoor", sum := "1004c3a951aa0b07a47fd9bfa848ac372e5a1f5c55b201edaaf8d2758522e8f0", func := "allotment/allotmentlaw05.ClassMore", spec := "classMore", named := ["allotment/class.sizes"], apart := false, laid := [("allotment/class.sizes", laid_allotment_class_sizes)] }
def ClassMoreSaid : Prop := classMoreRow.holds Tryd.pinned (OpenSpec.ofChange classMoreSpec)

/-- ITS FALSE NEIGHBOUR: 'it returns false'. Refute it at one input. -/
def classMoreWrong : ChangeSpec := { name := "classMore", fn := fun _ => fun
  | [d1, d2, d3] => { results := [.lit (.bool false)], args := [d1, d2, d3] }
  | _ => none }
def ClassMoreWrongFalsely : Prop := classMoreRow.holds Tryd.pinned (OpenSpec.ofChange classMoreWrong)

/-- 'allotmentlaw05.ClassRefuses': WHATEVER THE INPUT: true; the input reads as it did. -/
def classRefusesSpec : ChangeSpec := { name := "classRefuses", fn := fun _ => fun
  | [d1, d2] => { results := [.lit (.bool true)], args := [d1, d2] }
  | _ => none }
def classRefusesRow : OpenClaim := { program := "ythblggnjfmgonaadoor", sum := "1004c3a951aa0b07a47fd9bfa848ac372e5a1f5c55b201edaaf8d2758522e8f0", func := "allotment/allotmentlaw05.ClassRefuses", spec := "classRefuses", named := ["allotment/class.sizes"], apart := false, laid := [("allotment/class.sizes", laid_allotment_class_sizes)] }
def ClassRefusesSaid : Prop := classRefusesRow.holds Tryd.pinned (OpenSpec.ofChange classRefusesSpec)

/-- ITS FALSE NEIGHBOUR: 'it returns false'. Refute it at one input. -/
def classRefusesWrong : ChangeSpec := { name := "classRefuses", fn := fun _ => fun
  | [d1, d2] => { results := [.lit (.bool false)], args := [d1, d2] }
  | _ => none }
def ClassRefusesWrongFalsely : Prop := classRefusesRow.holds Tryd.pinned (OpenSpec.ofChange classRefusesWrong)

/-- 'allotmentlaw05.ClassWaste': WHATEVER THE INPUT: true; the input reads as it did. -/
def classWasteSpec : ChangeSpec := { name := "classWaste", fn := fun _ => fun
  | [d] => { results := [.lit (.bool true)], args := [d] }
  | _ => none }
def classWasteRow : OpenClaim := { program := "ythblggnjfmgonaadoor", sum := "1004c3a951aa0b07a47fd9bfa848ac372e5a1f5c55b201edaaf8d2758522e8f0", func := "allotment/allotmentlaw05.ClassWaste", spec := "classWaste", named := ["allotment/class.sizes"], apart := false, laid := [("allotment/class.sizes", laid_allotment_class_sizes)] }
def ClassWasteSaid : Prop := classWasteRow.holds Tryd.pinned (OpenSpec.ofChange classWasteSpec)

/-- ITS FALSE NEIGHBOUR: 'it returns false'. Refute it at one input. -/
def classWasteWrong : ChangeSpec := { name := "classWaste", fn := fun _ => fun
  | [d] => { results := [.lit (.bool false)], args := [d] }
  | _ => none }
def ClassWasteWrongFalsely : Prop := classWasteRow.holds Tryd.pinned (OpenSpec.ofChange classWasteWrong)

/- THE SECOND FORM. 'bulk': how many values and letters a reading holds, each counted each time it is reached (what is shared counts as often as it is met; a slice's spare places count too). A statement '..UptoSaid' is the law's where the arguments, and the package variables that the reading takes, are together of bulk at most 1048576: NARROWER than '..Said'. Prove '..Said' where nothing that the law and all that it calls make is longer than what came in: it says more and counts as full. Else prove '..UptoSaid'. A law counts once. -/
mutual
def uptoBulk {H : Type} : DataW H → Nat
  | .lit (.string bytes) => bytes.length + 1
  | .lit _ => 1
  | .nil => 1
  | .ptr d => uptoBulk d + 1
  | .slice elems spare => uptoBulkAll elems + uptoBulkAll spare + 1
  | .agg parts => uptoBulkAll parts + 1
  | .iface _ d => uptoBulk d + 1
  | .map entries => uptoBulkEntries entries + 1
  | .held _ => 1
def uptoBulkAll {H : Type} : List (DataW H) → Nat
  | [] => 0
  | d :: r => uptoBulk d + uptoBulkAll r
def uptoBulkEntries {H : Type} : List (Lit × DataW H) → Nat
  | [] => 0
  | x :: r => uptoBulkEntry x + uptoBulkEntries r
def uptoBulkEntry {H : Type} : Lit × DataW H → Nat
  | (.string bytes, d) => bytes.length + uptoBulk d + 1
  | (_, d) => uptoBulk d + 1
 end
def uptoSmall : (H : Type) → List (DataW H) → Bool := fun _ ds => decide (uptoBulkAll ds ≤ 1048576)
def OpenSpec.upto (s : _root_.Go.ChangeSpec) : _root_.Go.OpenSpec := { _root_.Go.OpenSpec.ofChange s with cond := some uptoSmall }

/-- 'allotmentlaw05.ClassTables', WHERE WHAT IT READS IS OF BULK AT MOST 1048576: true; the input reads as it did. -/
def classTablesUptoRow : OpenClaim := { program := "ythblggnjfmgonaadoor", sum := "1004c3a951aa0b07a47fd9bfa848ac372e5a1f5c55b201edaaf8d2758522e8f0", func := "allotment/allotmentlaw05.ClassTables", spec := "classTables", named := ["allotment/class.sizes"], apart := false, laid := [("allotment/class.sizes", laid_allotment_class_sizes)], narrowed := true }
def ClassTablesUptoSaid : Prop := classTablesUptoRow.holds Tryd.pinned (OpenSpec.upto classTablesSpec)

/-- 'allotmentlaw05.ClassPlans', WHERE WHAT IT READS IS OF BULK AT MOST 1048576: true; the input reads as it did. -/
def classPlansUptoRow : OpenClaim := { program := "ythblggnjfmgonaadoor", sum := "1004c3a951aa0b07a47fd9bfa848ac372e5a1f5c55b201edaaf8d2758522e8f0", func := "allotment/allotmentlaw05.ClassPlans", spec := "classPlans", named := ["allotment/class.sizes"], apart := false, laid := [("allotment/class.sizes", laid_allotment_class_sizes)], narrowed := true }
def ClassPlansUptoSaid : Prop := classPlansUptoRow.holds Tryd.pinned (OpenSpec.upto classPlansSpec)

/-- 'allotmentlaw05.ClassEnough', WHERE WHAT IT READS IS OF BULK AT MOST 1048576: true; the input reads as it did. -/
def classEnoughUptoRow : OpenClaim := { program := "ythblggnjfmgonaadoor", sum := "1004c3a951aa0b07a47fd9bfa848ac372e5a1f5c55b201edaaf8d2758522e8f0", func := "allotment/allotmentlaw05.ClassEnough", spec := "classEnough", named := ["allotment/class.sizes"], apart := false, laid := [("allotment/class.sizes", laid_allotment_class_sizes)], narrowed := true }
def ClassEnoughUptoSaid : Prop := classEnoughUptoRow.holds Tryd.pinned (OpenSpec.upto classEnoughSpec)

/-- 'allotmentlaw05.ClassFits', WHERE WHAT IT READS IS OF BULK AT MOST 1048576: true; the input reads as it did. -/
def classFitsUptoRow : OpenClaim := { program := "ythblggnjfmgonaadoor", sum := "1004c3a951aa0b07a47fd9bfa848ac372e5a1f5c55b201edaaf8d2758522e8f0", func := "allotment/allotmentlaw05.ClassFits", spec := "classFits", named := ["allotment/class.sizes"], apart := false, laid := [("allotment/class.sizes", laid_allotment_class_sizes)], narrowed := true }
def ClassFitsUptoSaid : Prop := classFitsUptoRow.holds Tryd.pinned (OpenSpec.upto classFitsSpec)

/-- 'allotmentlaw05.ClassMore', WHERE WHAT IT READS IS OF BULK AT MOST 1048576: true; the input reads as it did. -/
def classMoreUptoRow : OpenClaim := { program := "ythblggnjfmgonaadoor", sum := "1004c3a951aa0b07a47fd9bfa848ac372e5a1f5c55b201edaaf8d2758522e8f0", func := "allotment/allotmentlaw05.ClassMore", spec := "classMore", named := ["allotment/class.sizes"], apart := false, laid := [("allotment/class.sizes", laid_allotment_class_sizes)], narrowed := true }
def ClassMoreUptoSaid : Prop := classMoreUptoRow.holds Tryd.pinned (OpenSpec.upto classMoreSpec)

/-- 'allotmentlaw05.ClassRefuses', WHERE WHAT IT READS IS OF BULK AT MOST 1048576: true; the input reads as it did. -/
def classRefusesUptoRow : OpenClaim := { program := "ythblggnjfmgonaadoor", sum := "1004c3a951aa0b07a47fd9bfa848ac372e5a1f5c55b201edaaf8d2758522e8f0", func := "allotment/allotmentlaw05.ClassRefuses", spec := "classRefuses", named := ["allotment/class.sizes"], apart := false, laid := [("allotment/class.sizes", laid_allotment_class_sizes)], narrowed := true }
def ClassRefusesUptoSaid : Prop := classRefusesUptoRow.holds Tryd.pinned (OpenSpec.upto classRefusesSpec)

/-- 'allotmentlaw05.ClassWaste', WHERE WHAT IT READS IS OF BULK AT MOST 1048576: true; the input reads as it did. -/
def classWasteUptoRow : OpenClaim := { program := "ythblggnjfmgonaadoor", sum := "1004c3a951aa0b07a47fd9bfa848ac372e5a1f5c55b201edaaf8d2758522e8f0", func := "allotment/allotmentlaw05.ClassWaste", spec := "classWaste", named := ["allotment/class.sizes"], apart := false, laid := [("allotment/class.sizes", laid_allotment_class_sizes)], narrowed := true }
def ClassWasteUptoSaid : Prop := classWasteUptoRow.holds Tryd.pinned (OpenSpec.upto classWasteSpec)

end Rows
end Go.Proofs.YthblggnjfmgonaaDoor
