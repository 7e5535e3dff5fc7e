/-
  NARROWER THAN 'FOR EVERY INPUT', by the rows' own cells (each row's printed sentence says how): SegActs: laid · SegApart: laid · SegDrops: laid · SegFills: laid · SegOwners: laid · SegWrites: laid · SegKinds: laid.
  DERIVED. THE GIVEN ROWS OF THIS SEAT. 7 by the template 'for every input the law returns true; each argument reads behind the call as it read before'; 0 by the template 'total and deterministic' (their statements: YtomepdgddpajoaaDoorTotals.lean).
  GIVEN WITH THE SEED: the statements are not yours to turn. If you find one false, say at which input.
  Laid BY PROGRAM, IN A SANDBOX (cutbox-rows.mjs): the forced cells as the released guide's own fill.sh prints them over the translation 096f4c002913dfbf… (all of the seat's roots in one cut). By AI agents, Wed Nov 11 2026. No macro, syntax, notation, axiom, sorry.
-/
import Derived.Test.YtomepdgddpajoaaDoorChecked
import GoSem.Claim
import GoSem.ClaimJoined
import GoSem.ClaimMapViews
import Derived.JoinedTies
import Derived.KernelRfl
namespace Go.Proofs.YtomepdgddpajoaaDoor
/- THE CELL 'sum', in the pinned program and in every row, IS THE sha256 OF THE DUMP (.gsa) THAT YtomepdgddpajoaaDoorProg.lean LOADS. Nothing in Lean hashes anything: it is a label: what it is worth is what the hold of that sum in a sandbox is worth. -/
noncomputable def Tryd.pinned : Pinned := { name := "ytomepdgddpajoaadoor", sum := "096f4c002913dfbfb8deb70bfd6f98d785019e1e3b5ba88ee2e6161441ff3020", checked := Tryd.checked }
namespace Rows
def none {H : Type} : Left H := { results := [], args := [] }

/- WHAT THE LISTED PACKAGE-LEVEL VARIABLES READ AS WHEN THE CALL BEGINS. Each datum BY PROGRAM (the guide's laid-datum.mjs) off the statement by which the dump's own 'gosem.cut.vars' lays the variable. In a bare row this is a premise. The card (YtomepdgddpajoaaDoorCards.lean) ties it to the program's text. -/
def laid_allotment_class_sizes {H : Type} : DataW H := .agg [.lit (.int .u64 16), .lit (.int .u64 32), .lit (.int .u64 48), .lit (.int .u64 64), .lit (.int .u64 96), .lit (.int .u64 128), .lit (.int .u64 192), .lit (.int .u64 256), .lit (.int .u64 384), .lit (.int .u64 512), .lit (.int .u64 768), .lit (.int .u64 1024)]

/-- 'allotmentlaw10.SegActs': WHATEVER THE INPUT: true; the input reads as it did. -/
def segActsSpec : ChangeSpec := { name := "segActs", fn := fun _ => fun
  | [d1, d2] => { results := [.lit (.bool true)], args := [d1, d2] }
  | _ => none }
def segActsRow : OpenClaim := { program := "ytomepdgddpajoaadoor", sum := "096f4c002913dfbfb8deb70bfd6f98d785019e1e3b5ba88ee2e6161441ff3020", func := "allotment/allotmentlaw10.SegActs", spec := "segActs", unfollowed := true, recurses := true, named := ["allotment/class.sizes"], apart := false, laid := [("allotment/class.sizes", laid_allotment_class_sizes)] }
def SegActsSaid : Prop := segActsRow.holds Tryd.pinned (OpenSpec.ofChange segActsSpec)

/-- ITS FALSE NEIGHBOUR: 'it returns false'. Refute it at one input. -/
def segActsWrong : ChangeSpec := { name := "segActs", fn := fun _ => fun
  | [d1, d2] => { results := [.lit (.bool false)], args := [d1, d2] }
  | _ => none }
def SegActsWrongFalsely : Prop := segActsRow.holds Tryd.pinned (OpenSpec.ofChange segActsWrong)

/-- 'allotmentlaw10.SegApart': WHATEVER THE INPUT: true; the input reads as it did. -/
def segApartSpec : ChangeSpec := { name := "segApart", fn := fun _ => fun
  | [d1, d2] => { results := [.lit (.bool true)], args := [d1, d2] }
  | _ => none }
def segApartRow : OpenClaim := { program := "ytomepdgddpajoaadoor", sum := "096f4c002913dfbfb8deb70bfd6f98d785019e1e3b5ba88ee2e6161441ff3020", func := "allotment/allotmentlaw10.SegApart", spec := "segApart", unfollowed := true, recurses := true, named := ["allotment/class.sizes"], apart := false, laid := [("allotment/class.sizes", laid_allotment_class_sizes)] }
def SegApartSaid : Prop := segApartRow.holds Tryd.pinned (OpenSpec.ofChange segApartSpec)

/-- ITS FALSE NEIGHBOUR: 'it returns false'. Refute it at one input. -/
def segApartWrong : ChangeSpec := { name := "segApart", fn := fun _ => fun
  | [d1, d2] => { results := [.lit (.bool false)], args := [d1, d2] }
  | _ => none }
def SegApartWrongFalsely : Prop := segApartRow.holds Tryd.pinned (OpenSpec.ofChange segApartWrong)

/-- 'allotmentlaw10.SegDrops': WHATEVER THE INPUT: true; the input reads as it did. -/
def segDropsSpec : ChangeSpec := { name := "segDrops", fn := fun _ => fun
  | [d1, d2] => { results := [.lit (.bool true)], args := [d1, d2] }
  | _ => none }
def segDropsRow : OpenClaim := { program := "ytomepdgddpajoaadoor", sum := "096f4c002913dfbfb8deb70bfd6f98d785019e1e3b5ba88ee2e6161441ff3020", func := "allotment/allotmentlaw10.SegDrops", spec := "segDrops", unfollowed := true, recurses := true, named := ["allotment/class.sizes"], apart := false, laid := [("allotment/class.sizes", laid_allotment_class_sizes)] }
def SegDropsSaid : Prop := segDropsRow.holds Tryd.pinned (OpenSpec.ofChange segDropsSpec)

/-- ITS FALSE NEIGHBOUR: 'it returns false'. Refute it at one input. -/
def segDropsWrong : ChangeSpec := { name := "segDrops", fn := fun _ => fun
  | [d1, d2] => { results := [.lit (.bool false)], args := [d1, d2] }
  | _ => none }
def SegDropsWrongFalsely : Prop := segDropsRow.holds Tryd.pinned (OpenSpec.ofChange segDropsWrong)

/-- 'allotmentlaw10.SegFills': WHATEVER THE INPUT: true; the input reads as it did. -/
def segFillsSpec : ChangeSpec := { name := "segFills", fn := fun _ => fun
  | [d] => { results := [.lit (.bool true)], args := [d] }
  | _ => none }
def segFillsRow : OpenClaim := { program := "ytomepdgddpajoaadoor", sum := "096f4c002913dfbfb8deb70bfd6f98d785019e1e3b5ba88ee2e6161441ff3020", func := "allotment/allotmentlaw10.SegFills", spec := "segFills", unfollowed := true, recurses := true, named := ["allotment/class.sizes"], apart := false, laid := [("allotment/class.sizes", laid_allotment_class_sizes)] }
def SegFillsSaid : Prop := segFillsRow.holds Tryd.pinned (OpenSpec.ofChange segFillsSpec)

/-- ITS FALSE NEIGHBOUR: 'it returns false'. Refute it at one input. -/
def segFillsWrong : ChangeSpec := { name := "segFills", fn := fun _ => fun
  | [d] => { results := [.lit (.bool false)], args := [d] }
  | _ => none }
def SegFillsWrongFalsely : Prop := segFillsRow.holds Tryd.pinned (OpenSpec.ofChange segFillsWrong)

/-- 'allotmentlaw10.SegOwners': WHATEVER THE INPUT: true; the input reads as it did. -/
def segOwnersSpec : ChangeSpec := { name := "segOwners", fn := fun _ => fun
  | [d1, d2] => { results := [.lit (.bool true)], args := [d1, d2] }
  | _ => none }
def segOwnersRow : OpenClaim := { program := "ytomepdgddpajoaadoor", sum := "096f4c002913dfbfb8deb70bfd6f98d785019e1e3b5ba88ee2e6161441ff3020", func := "allotment/allotmentlaw10.SegOwners", spec := "segOwners", unfollowed := true, recurses := true, named := ["allotment/class.sizes"], apart := false, laid := [("allotment/class.sizes", laid_allotment_class_sizes)] }
def SegOwnersSaid : Prop := segOwnersRow.holds Tryd.pinned (OpenSpec.ofChange segOwnersSpec)

/-- ITS FALSE NEIGHBOUR: 'it returns false'. Refute it at one input. -/
def segOwnersWrong : ChangeSpec := { name := "segOwners", fn := fun _ => fun
  | [d1, d2] => { results := [.lit (.bool false)], args := [d1, d2] }
  | _ => none }
def SegOwnersWrongFalsely : Prop := segOwnersRow.holds Tryd.pinned (OpenSpec.ofChange segOwnersWrong)

/-- 'allotmentlaw10.SegWrites': WHATEVER THE INPUT: true; the input reads as it did. -/
def segWritesSpec : ChangeSpec := { name := "segWrites", fn := fun _ => fun
  | [d1, d2, d3] => { results := [.lit (.bool true)], args := [d1, d2, d3] }
  | _ => none }
def segWritesRow : OpenClaim := { program := "ytomepdgddpajoaadoor", sum := "096f4c002913dfbfb8deb70bfd6f98d785019e1e3b5ba88ee2e6161441ff3020", func := "allotment/allotmentlaw10.SegWrites", spec := "segWrites", unfollowed := true, recurses := true, named := ["allotment/class.sizes"], apart := false, laid := [("allotment/class.sizes", laid_allotment_class_sizes)] }
def SegWritesSaid : Prop := segWritesRow.holds Tryd.pinned (OpenSpec.ofChange segWritesSpec)

/-- ITS FALSE NEIGHBOUR: 'it returns false'. Refute it at one input. -/
def segWritesWrong : ChangeSpec := { name := "segWrites", fn := fun _ => fun
  | [d1, d2, d3] => { results := [.lit (.bool false)], args := [d1, d2, d3] }
  | _ => none }
def SegWritesWrongFalsely : Prop := segWritesRow.holds Tryd.pinned (OpenSpec.ofChange segWritesWrong)

/-- 'allotmentlaw10.SegKinds': WHATEVER THE INPUT: true; the input reads as it did. -/
def segKindsSpec : ChangeSpec := { name := "segKinds", fn := fun _ => fun
  | [d1, d2] => { results := [.lit (.bool true)], args := [d1, d2] }
  | _ => none }
def segKindsRow : OpenClaim := { program := "ytomepdgddpajoaadoor", sum := "096f4c002913dfbfb8deb70bfd6f98d785019e1e3b5ba88ee2e6161441ff3020", func := "allotment/allotmentlaw10.SegKinds", spec := "segKinds", unfollowed := true, recurses := true, named := ["allotment/class.sizes"], apart := false, laid := [("allotment/class.sizes", laid_allotment_class_sizes)] }
def SegKindsSaid : Prop := segKindsRow.holds Tryd.pinned (OpenSpec.ofChange segKindsSpec)

/-- ITS FALSE NEIGHBOUR: 'it returns false'. Refute it at one input. -/
def segKindsWrong : ChangeSpec := { name := "segKinds", fn := fun _ => fun
  | [d1, d2] => { results := [.lit (.bool false)], args := [d1, d2] }
  | _ => none }
def SegKindsWrongFalsely : Prop := segKindsRow.holds Tryd.pinned (OpenSpec.ofChange segKindsWrong)

/- THE SECOND FORM. 'bulk': how many values and letters a reading holds, each counted each time it is reached (what is shared counts as often as it is met; a slice's spare places count too). A statement '..UptoSaid' is the law's where the arguments, and the package variables that the reading takes, are together of bulk at most 1048576: NARROWER than '..Said'. Prove '..Said' where nothing that the law and all that it calls make is longer than what came in: it says more and counts as full. Else prove '..UptoSaid'. A law counts once. -/
mutual
def uptoBulk {H : Type} : DataW H → Nat
  | .lit (.string bytes) => bytes.length + 1
  | .lit _ => 1
  | .nil => 1
  | .ptr d => uptoBulk d + 1
  | .slice elems spare => uptoBulkAll elems + uptoBulkAll spare + 1
  | .agg parts => uptoBulkAll parts + 1
  | .iface _ d => uptoBulk d + 1
  | .map entries => uptoBulkEntries entries + 1
  | .held _ => 1
def uptoBulkAll {H : Type} : List (DataW H) → Nat
  | [] => 0
  | d :: r => uptoBulk d + uptoBulkAll r
def uptoBulkEntries {H : Type} : List (Lit × DataW H) → Nat
  | [] => 0
  | x :: r => uptoBulkEntry x + uptoBulkEntries r
def uptoBulkEntry {H : Type} : Lit × DataW H → Nat
  | (.string bytes, d) => bytes.length + uptoBulk d + 1
  | (_, d) => uptoBulk d + 1
 end
def uptoSmall : (H : Type) → List (DataW H) → Bool := fun _ ds => decide (uptoBulkAll ds ≤ 1048576)
def OpenSpec.upto (s : _root_.Go.ChangeSpec) : _root_.Go.OpenSpec := { _root_.Go.OpenSpec.ofChange s with cond := some uptoSmall }

/-- 'allotmentlaw10.SegActs', WHERE WHAT IT READS IS OF BULK AT MOST 1048576: true; the input reads as it did. -/
def segActsUptoRow : OpenClaim := { program := "ytomepdgddpajoaadoor", sum := "096f4c002913dfbfb8deb70bfd6f98d785019e1e3b5ba88ee2e6161441ff3020", func := "allotment/allotmentlaw10.SegActs", spec := "segActs", unfollowed := true, recurses := true, named := ["allotment/class.sizes"], apart := false, laid := [("allotment/class.sizes", laid_allotment_class_sizes)], narrowed := true }
def SegActsUptoSaid : Prop := segActsUptoRow.holds Tryd.pinned (OpenSpec.upto segActsSpec)

/-- 'allotmentlaw10.SegApart', WHERE WHAT IT READS IS OF BULK AT MOST 1048576: true; the input reads as it did. -/
def segApartUptoRow : OpenClaim := { program := "ytomepdgddpajoaadoor", sum := "096f4c002913dfbfb8deb70bfd6f98d785019e1e3b5ba88ee2e6161441ff3020", func := "allotment/allotmentlaw10.SegApart", spec := "segApart", unfollowed := true, recurses := true, named := ["allotment/class.sizes"], apart := false, laid := [("allotment/class.sizes", laid_allotment_class_sizes)], narrowed := true }
def SegApartUptoSaid : Prop := segApartUptoRow.holds Tryd.pinned (OpenSpec.upto segApartSpec)

/-- 'allotmentlaw10.SegDrops', WHERE WHAT IT READS IS OF BULK AT MOST 1048576: true; the input reads as it did. -/
def segDropsUptoRow : OpenClaim := { program := "ytomepdgddpajoaadoor", sum := "096f4c002913dfbfb8deb70bfd6f98d785019e1e3b5ba88ee2e6161441ff3020", func := "allotment/allotmentlaw10.SegDrops", spec := "segDrops", unfollowed := true, recurses := true, named := ["allotment/class.sizes"], apart := false, laid := [("allotment/class.sizes", laid_allotment_class_sizes)], narrowed := true }
def SegDropsUptoSaid : Prop := segDropsUptoRow.holds Tryd.pinned (OpenSpec.upto segDropsSpec)

/-- 'allotmentlaw10.SegFills', WHERE WHAT IT READS IS OF BULK AT MOST 1048576: true; the input reads as it did. -/
def segFillsUptoRow : OpenClaim := { program := "ytomepdgddpajoaadoor", sum := "096f4c002913dfbfb8deb70bfd6f98d785019e1e3b5ba88ee2e6161441ff3020", func := "allotment/allotmentlaw10.SegFills", spec := "segFills", unfollowed := true, recurses := true, named := ["allotment/class.sizes"], apart := false, laid := [("allotment/class.sizes", laid_allotment_class_sizes)], narrowed := true }
def SegFillsUptoSaid : Prop := segFillsUptoRow.holds Tryd.pinned (OpenSpec.upto segFillsSpec)

/-- 'allotmentlaw10.SegOwners', WHERE WHAT IT READS IS OF BULK AT MOST 1048576: true; the input reads as it did. -/
def segOwnersUptoRow : OpenClaim := { program := "ytomepdgddpajoaadoor", sum := "096f4c002913dfbfb8deb70bfd6f98d785019e1e3b5ba88ee2e6161441ff3020", func := "allotment/allotmentlaw10.SegOwners", spec := "segOwners", unfollowed := true, recurses := true, named := ["allotment/class.sizes"], apart := false, laid := [("allotment/class.sizes", laid_allotment_class_sizes)], narrowed := true }
def SegOwnersUptoSaid : Prop := segOwnersUptoRow.holds Tryd.pinned (OpenSpec.upto segOwnersSpec)

/-- 'allotmentlaw10.SegWrites', WHERE WHAT IT READS IS OF BULK AT MOST 1048576: true; the input reads as it did. -/
def segWritesUptoRow : OpenClaim := { program := "ytomepdgddpajoaadoor", sum := "096f4c002913dfbfb8deb70bfd6f98d785019e1e3b5ba88ee2e6161441ff3020", func := "allotment/allotmentlaw10.SegWrites", spec := "segWrites", unfollowed := true, recurses := true, named := ["allotment/class.sizes"], apart := false, laid := [("allotment/class.sizes", laid_allotment_class_sizes)], narrowed := true }
def SegWritesUptoSaid : Prop := segWritesUptoRow.holds Tryd.pinned (OpenSpec.upto segWritesSpec)

/-- 'allotmentlaw10.SegKinds', WHERE WHAT IT READS IS OF BULK AT MOST 1048576: true; the input reads as it did. -/
def segKindsUptoRow : OpenClaim := { program := "ytomepdgddpajoaadoor", sum := "096f4c002913dfbfb8deb70bfd6f98d785019e1e3b5ba88ee2e6161441ff3020", func := "allotment/allotmentlaw10.SegKinds", spec := "segKinds", unfollowed := true, recurses := true, named := ["allotment/class.sizes"], apart := false, laid := [("allotment/class.sizes", laid_allotment_class_sizes)], narrowed := true }
def SegKindsUptoSaid : Prop := segKindsUptoRow.holds Tryd.pinned (OpenSpec.upto segKindsSpec)

end Rows
end Go.Proofs.YtomepdgddpajoaaDoor
