/-
  NARROWER THAN 'FOR EVERY INPUT', by the rows' own cells (each row's printed sentence says how): CallSteps: laid · CallApart: laid · CallBounds: laid · CallFull: laid · CallLeaks: laid · CallBack: laid · CallRefuses: laid.
  DERIVED. THE GIVEN ROWS OF THIS SEAT. 7 by the template 'for every input the law returns true; each argument reads behind the call as it read before'; 0 by the template 'total and deterministic' (their statements: YtippfeplogkaiaaGreatDoorTotals.lean).
  GIVEN WITH THE SEED: the statements are not yours to turn. If you find one false, say at which input.
  Laid BY PROGRAM, IN A SANDBOX (cutbox-rows.mjs): the forced cells as the released guide's own fill.sh prints them over the translation d784858381c3d523… (all of the seat's roots in one cut). By AI agents, Wed Nov 11 2026. No macro, syntax, notation, axiom, sorry.
-/
import Derived.Test.YtippfeplogkaiaaGreatDoorChecked
import GoSem.Claim
import GoSem.ClaimJoined
import GoSem.ClaimMapViews
import Derived.JoinedTies
import Derived.KernelRfl
namespace Go.Proofs.YtippfeplogkaiaaGreatDoor
/- THE CELL 'sum', in the pinned program and in every row, IS THE sha256 OF THE DUMP (.gsa) THAT YtippfeplogkaiaaGreatDoorProg.lean LOADS. Nothing in Lean hashes anything: it is a label: what it is worth is what the hold of that sum in a sandbox is worth. -/
noncomputable def Tryz.pinned : Pinned := { name := "ytippfeplogkaiaagreatdoor", sum := "d784858381c3d5234f3a728dcc403dbfd01b85b110da86272ae0c00c174f8c99", checked := Tryz.checked }
namespace Rows
def none {H : Type} : Left H := { results := [], args := [] }

/- WHAT THE LISTED PACKAGE-LEVEL VARIABLES READ AS WHEN THE CALL BEGINS. Each datum BY PROGRAM (the guide's laid-datum.mjs) off the statement by which the dump's own 'gosem.cut.vars' lays the variable. In a bare row this is a premise. The card (YtippfeplogkaiaaGreatDoorCards.lean) ties it to the program's text. -/
def laid_allotment_class_sizes {H : Type} : DataW H := .agg [.lit (.int .u64 16), .lit (.int .u64 32), .lit (.int .u64 48), .lit (.int .u64 64), .lit (.int .u64 96), .lit (.int .u64 128), .lit (.int .u64 192), .lit (.int .u64 256), .lit (.int .u64 384), .lit (.int .u64 512), .lit (.int .u64 768), .lit (.int .u64 1024)]

/-- 'allotmentlaw14.CallSteps': WHATEVER THE INPUT: true; the input reads as it did. -/
def callStepsSpec : ChangeSpec := { name := "callSteps", fn := fun _ => fun
  | [d1, d2] => { results := [.lit (.bool true)], args := [d1, d2] }
  | _ => none }
def callStepsRow : OpenClaim := { program := "ytippfeplogkaiaagreatdoor", sum := "d784858381c3d5234f3a728dcc403dbfd01b85b110da86272ae0c00c174f8c99", func := "allotment/allotmentlaw14.CallSteps", spec := "callSteps", unfollowed := true, recurses := true, named := ["allotment/class.sizes"], apart := false, laid := [("allotment/class.sizes", laid_allotment_class_sizes)] }
def CallStepsSaid : Prop := callStepsRow.holds Tryz.pinned (OpenSpec.ofChange callStepsSpec)

/-- ITS FALSE NEIGHBOUR: 'it returns false'. Refute it at one input. -/
def callStepsWrong : ChangeSpec := { name := "callSteps", fn := fun _ => fun
  | [d1, d2] => { results := [.lit (.bool false)], args := [d1, d2] }
  | _ => none }
def CallStepsWrongFalsely : Prop := callStepsRow.holds Tryz.pinned (OpenSpec.ofChange callStepsWrong)

/-- 'allotmentlaw14.CallApart': WHATEVER THE INPUT: true; the input reads as it did. -/
def callApartSpec : ChangeSpec := { name := "callApart", fn := fun _ => fun
  | [d] => { results := [.lit (.bool true)], args := [d] }
  | _ => none }
def callApartRow : OpenClaim := { program := "ytippfeplogkaiaagreatdoor", sum := "d784858381c3d5234f3a728dcc403dbfd01b85b110da86272ae0c00c174f8c99", func := "allotment/allotmentlaw14.CallApart", spec := "callApart", unfollowed := true, recurses := true, named := ["allotment/class.sizes"], apart := false, laid := [("allotment/class.sizes", laid_allotment_class_sizes)] }
def CallApartSaid : Prop := callApartRow.holds Tryz.pinned (OpenSpec.ofChange callApartSpec)

/-- ITS FALSE NEIGHBOUR: 'it returns false'. Refute it at one input. -/
def callApartWrong : ChangeSpec := { name := "callApart", fn := fun _ => fun
  | [d] => { results := [.lit (.bool false)], args := [d] }
  | _ => none }
def CallApartWrongFalsely : Prop := callApartRow.holds Tryz.pinned (OpenSpec.ofChange callApartWrong)

/-- 'allotmentlaw14.CallBounds': WHATEVER THE INPUT: true; the input reads as it did. -/
def callBoundsSpec : ChangeSpec := { name := "callBounds", fn := fun _ => fun
  | [d1, d2] => { results := [.lit (.bool true)], args := [d1, d2] }
  | _ => none }
def callBoundsRow : OpenClaim := { program := "ytippfeplogkaiaagreatdoor", sum := "d784858381c3d5234f3a728dcc403dbfd01b85b110da86272ae0c00c174f8c99", func := "allotment/allotmentlaw14.CallBounds", spec := "callBounds", unfollowed := true, recurses := true, named := ["allotment/class.sizes"], apart := false, laid := [("allotment/class.sizes", laid_allotment_class_sizes)] }
def CallBoundsSaid : Prop := callBoundsRow.holds Tryz.pinned (OpenSpec.ofChange callBoundsSpec)

/-- ITS FALSE NEIGHBOUR: 'it returns false'. Refute it at one input. -/
def callBoundsWrong : ChangeSpec := { name := "callBounds", fn := fun _ => fun
  | [d1, d2] => { results := [.lit (.bool false)], args := [d1, d2] }
  | _ => none }
def CallBoundsWrongFalsely : Prop := callBoundsRow.holds Tryz.pinned (OpenSpec.ofChange callBoundsWrong)

/-- 'allotmentlaw14.CallFull': WHATEVER THE INPUT: true; the input reads as it did. -/
def callFullSpec : ChangeSpec := { name := "callFull", fn := fun _ => fun
  | [d1, d2] => { results := [.lit (.bool true)], args := [d1, d2] }
  | _ => none }
def callFullRow : OpenClaim := { program := "ytippfeplogkaiaagreatdoor", sum := "d784858381c3d5234f3a728dcc403dbfd01b85b110da86272ae0c00c174f8c99", func := "allotment/allotmentlaw14.CallFull", spec := "callFull", unfollowed := true, recurses := true, named := ["allotment/class.sizes"], apart := false, laid := [("allotment/class.sizes", laid_allotment_class_sizes)] }
def CallFullSaid : Prop := callFullRow.holds Tryz.pinned (OpenSpec.ofChange callFullSpec)

/-- ITS FALSE NEIGHBOUR: 'it returns false'. Refute it at one input. -/
def callFullWrong : ChangeSpec := { name := "callFull", fn := fun _ => fun
  | [d1, d2] => { results := [.lit (.bool false)], args := [d1, d2] }
  | _ => none }
def CallFullWrongFalsely : Prop := callFullRow.holds Tryz.pinned (OpenSpec.ofChange callFullWrong)

/-- 'allotmentlaw14.CallLeaks': WHATEVER THE INPUT: true; the input reads as it did. -/
def callLeaksSpec : ChangeSpec := { name := "callLeaks", fn := fun _ => fun
  | [d1, d2] => { results := [.lit (.bool true)], args := [d1, d2] }
  | _ => none }
def callLeaksRow : OpenClaim := { program := "ytippfeplogkaiaagreatdoor", sum := "d784858381c3d5234f3a728dcc403dbfd01b85b110da86272ae0c00c174f8c99", func := "allotment/allotmentlaw14.CallLeaks", spec := "callLeaks", unfollowed := true, recurses := true, named := ["allotment/class.sizes"], apart := false, laid := [("allotment/class.sizes", laid_allotment_class_sizes)] }
def CallLeaksSaid : Prop := callLeaksRow.holds Tryz.pinned (OpenSpec.ofChange callLeaksSpec)

/-- ITS FALSE NEIGHBOUR: 'it returns false'. Refute it at one input. -/
def callLeaksWrong : ChangeSpec := { name := "callLeaks", fn := fun _ => fun
  | [d1, d2] => { results := [.lit (.bool false)], args := [d1, d2] }
  | _ => none }
def CallLeaksWrongFalsely : Prop := callLeaksRow.holds Tryz.pinned (OpenSpec.ofChange callLeaksWrong)

/-- 'allotmentlaw14.CallBack': WHATEVER THE INPUT: true; the input reads as it did. -/
def callBackSpec : ChangeSpec := { name := "callBack", fn := fun _ => fun
  | [d1, d2] => { results := [.lit (.bool true)], args := [d1, d2] }
  | _ => none }
def callBackRow : OpenClaim := { program := "ytippfeplogkaiaagreatdoor", sum := "d784858381c3d5234f3a728dcc403dbfd01b85b110da86272ae0c00c174f8c99", func := "allotment/allotmentlaw14.CallBack", spec := "callBack", unfollowed := true, recurses := true, named := ["allotment/class.sizes"], apart := false, laid := [("allotment/class.sizes", laid_allotment_class_sizes)] }
def CallBackSaid : Prop := callBackRow.holds Tryz.pinned (OpenSpec.ofChange callBackSpec)

/-- ITS FALSE NEIGHBOUR: 'it returns false'. Refute it at one input. -/
def callBackWrong : ChangeSpec := { name := "callBack", fn := fun _ => fun
  | [d1, d2] => { results := [.lit (.bool false)], args := [d1, d2] }
  | _ => none }
def CallBackWrongFalsely : Prop := callBackRow.holds Tryz.pinned (OpenSpec.ofChange callBackWrong)

/-- 'allotmentlaw14.CallRefuses': WHATEVER THE INPUT: true; the input reads as it did. -/
def callRefusesSpec : ChangeSpec := { name := "callRefuses", fn := fun _ => fun
  | [d1, d2] => { results := [.lit (.bool true)], args := [d1, d2] }
  | _ => none }
def callRefusesRow : OpenClaim := { program := "ytippfeplogkaiaagreatdoor", sum := "d784858381c3d5234f3a728dcc403dbfd01b85b110da86272ae0c00c174f8c99", func := "allotment/allotmentlaw14.CallRefuses", spec := "callRefuses", unfollowed := true, recurses := true, named := ["allotment/class.sizes"], apart := false, laid := [("allotment/class.sizes", laid_allotment_class_sizes)] }
def CallRefusesSaid : Prop := callRefusesRow.holds Tryz.pinned (OpenSpec.ofChange callRefusesSpec)

/-- ITS FALSE NEIGHBOUR: 'it returns false'. Refute it at one input. -/
def callRefusesWrong : ChangeSpec := { name := "callRefuses", fn := fun _ => fun
  | [d1, d2] => { results := [.lit (.bool false)], args := [d1, d2] }
  | _ => none }
def CallRefusesWrongFalsely : Prop := callRefusesRow.holds Tryz.pinned (OpenSpec.ofChange callRefusesWrong)

/- THE SECOND FORM. 'bulk': how many values and letters a reading holds, each counted each time it is reached (what is shared counts as often as it is met; a slice's spare places count too). A statement '..UptoSaid' is the law's where the arguments, and the package variables that the reading takes, are together of bulk at most 1048576: NARROWER than '..Said'. Prove '..Said' where nothing that the law and all that it calls make is longer than what came in: it says more and counts as full. Else prove '..UptoSaid'. A law counts once. -/
mutual
def uptoBulk {H : Type} : DataW H → Nat
  | .lit (.string bytes) => bytes.length + 1
  | .lit _ => 1
  | .nil => 1
  | .ptr d => uptoBulk d + 1
  | .slice elems spare => uptoBulkAll elems + uptoBulkAll spare + 1
  | .agg parts => uptoBulkAll parts + 1
  | .iface _ d => uptoBulk d + 1
  | .map entries => uptoBulkEntries entries + 1
  | .held _ => 1
def uptoBulkAll {H : Type} : List (DataW H) → Nat
  | [] => 0
  | d :: r => uptoBulk d + uptoBulkAll r
def uptoBulkEntries {H : Type} : List (Lit × DataW H) → Nat
  | [] => 0
  | x :: r => uptoBulkEntry x + uptoBulkEntries r
def uptoBulkEntry {H : Type} : Lit × DataW H → Nat
  | (.string bytes, d) => bytes.length + uptoBulk d + 1
  | (_, d) => uptoBulk d + 1
 end
def uptoSmall : (H : Type) → List (DataW H) → Bool := fun _ ds => decide (uptoBulkAll ds ≤ 1048576)
def OpenSpec.upto (s : _root_.Go.ChangeSpec) : _root_.Go.OpenSpec := { _root_.Go.OpenSpec.ofChange s with cond := some uptoSmall }

/-- 'allotmentlaw14.CallSteps', WHERE WHAT IT READS IS OF BULK AT MOST 1048576: true; the input reads as it did. -/
def callStepsUptoRow : OpenClaim := { program := "ytippfeplogkaiaagreatdoor", sum := "d784858381c3d5234f3a728dcc403dbfd01b85b110da86272ae0c00c174f8c99", func := "allotment/allotmentlaw14.CallSteps", spec := "callSteps", unfollowed := true, recurses := true, named := ["allotment/class.sizes"], apart := false, laid := [("allotment/class.sizes", laid_allotment_class_sizes)], narrowed := true }
def CallStepsUptoSaid : Prop := callStepsUptoRow.holds Tryz.pinned (OpenSpec.upto callStepsSpec)

/-- 'allotmentlaw14.CallApart', WHERE WHAT IT READS IS OF BULK AT MOST 1048576: true; the input reads as it did. -/
def callApartUptoRow : OpenClaim := { program := "ytippfeplogkaiaagreatdoor", sum := "d784858381c3d5234f3a728dcc403dbfd01b85b110da86272ae0c00c174f8c99", func := "allotment/allotmentlaw14.CallApart", spec := "callApart", unfollowed := true, recurses := true, named := ["allotment/class.sizes"], apart := false, laid := [("allotment/class.sizes", laid_allotment_class_sizes)], narrowed := true }
def CallApartUptoSaid : Prop := callApartUptoRow.holds Tryz.pinned (OpenSpec.upto callApartSpec)

/-- 'allotmentlaw14.CallBounds', WHERE WHAT IT READS IS OF BULK AT MOST 1048576: true; the input reads as it did. -/
def callBoundsUptoRow : OpenClaim := { program := "ytippfeplogkaiaagreatdoor", sum := "d784858381c3d5234f3a728dcc403dbfd01b85b110da86272ae0c00c174f8c99", func := "allotment/allotmentlaw14.CallBounds", spec := "callBounds", unfollowed := true, recurses := true, named := ["allotment/class.sizes"], apart := false, laid := [("allotment/class.sizes", laid_allotment_class_sizes)], narrowed := true }
def CallBoundsUptoSaid : Prop := callBoundsUptoRow.holds Tryz.pinned (OpenSpec.upto callBoundsSpec)

/-- 'allotmentlaw14.CallFull', WHERE WHAT IT READS IS OF BULK AT MOST 1048576: true; the input reads as it did. -/
def callFullUptoRow : OpenClaim := { program := "ytippfeplogkaiaagreatdoor", sum := "d784858381c3d5234f3a728dcc403dbfd01b85b110da86272ae0c00c174f8c99", func := "allotment/allotmentlaw14.CallFull", spec := "callFull", unfollowed := true, recurses := true, named := ["allotment/class.sizes"], apart := false, laid := [("allotment/class.sizes", laid_allotment_class_sizes)], narrowed := true }
def CallFullUptoSaid : Prop := callFullUptoRow.holds Tryz.pinned (OpenSpec.upto callFullSpec)

/-- 'allotmentlaw14.CallLeaks', WHERE WHAT IT READS IS OF BULK AT MOST 1048576: true; the input reads as it did. -/
def callLeaksUptoRow : OpenClaim := { program := "ytippfeplogkaiaagreatdoor", sum := "d784858381c3d5234f3a728dcc403dbfd01b85b110da86272ae0c00c174f8c99", func := "allotment/allotmentlaw14.CallLeaks", spec := "callLeaks", unfollowed := true, recurses := true, named := ["allotment/class.sizes"], apart := false, laid := [("allotment/class.sizes", laid_allotment_class_sizes)], narrowed := true }
def CallLeaksUptoSaid : Prop := callLeaksUptoRow.holds Tryz.pinned (OpenSpec.upto callLeaksSpec)

/-- 'allotmentlaw14.CallBack', WHERE WHAT IT READS IS OF BULK AT MOST 1048576: true; the input reads as it did. -/
def callBackUptoRow : OpenClaim := { program := "ytippfeplogkaiaagreatdoor", sum := "d784858381c3d5234f3a728dcc403dbfd01b85b110da86272ae0c00c174f8c99", func := "allotment/allotmentlaw14.CallBack", spec := "callBack", unfollowed := true, recurses := true, named := ["allotment/class.sizes"], apart := false, laid := [("allotment/class.sizes", laid_allotment_class_sizes)], narrowed := true }
def CallBackUptoSaid : Prop := callBackUptoRow.holds Tryz.pinned (OpenSpec.upto callBackSpec)

/-- 'allotmentlaw14.CallRefuses', WHERE WHAT IT READS IS OF BULK AT MOST 1048576: true; the input reads as it did. -/
def callRefusesUptoRow : OpenClaim := { program := "ytippfeplogkaiaagreatdoor", sum := "d784858381c3d5234f3a728dcc403dbfd01b85b110da86272ae0c00c174f8c99", func := "allotment/allotmentlaw14.CallRefuses", spec := "callRefuses", unfollowed := true, recurses := true, named := ["allotment/class.sizes"], apart := false, laid := [("allotment/class.sizes", laid_allotment_class_sizes)], narrowed := true }
def CallRefusesUptoSaid : Prop := callRefusesUptoRow.holds Tryz.pinned (OpenSpec.upto callRefusesSpec)

end Rows
end Go.Proofs.YtippfeplogkaiaaGreatDoor
