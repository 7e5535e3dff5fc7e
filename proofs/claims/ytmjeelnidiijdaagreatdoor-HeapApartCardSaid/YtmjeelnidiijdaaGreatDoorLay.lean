/- From what the statement says of the program's table of sizes to what the walks ask of it. -/
import Derived.Test.YtmjeelnidiijdaaGreatDoorClasses12
import Derived.Test.YtmjeelnidiijdaaGreatDoorCards
import Derived.Test.YtmjeelnidiijdaaGreatDoorTie
import Derived.ProofKit
import Derived.LaidMore
import Derived.OpenShut
import Derived.Stop.Joined
namespace Go.Proofs.YtmjeelnidiijdaaGreatDoor
open Go.ChangeShapes Go.WideShapes Go.ChangeAt Go.RowKit ClassMath
set_option linter.unusedVariables false
set_option maxRecDepth 100000

/-- The one variable that the statements list. -/
def laidSizes : List (String × DataW Unit) := [("allotment/class.sizes", Rows.laid_allotment_class_sizes)]
theorem gSizes : Tryz.prog.globalNamed "allotment/class.sizes" = some 0 := by kernel_rfl
theorem tSizes : (Tryz.prog.globals[0]?).map (·.type) = some 179 := by kernel_rfl
/-- The heap that the program's own start leaves meets the condition. -/
theorem door_met (os : Os) (args : Array Value) : laidMetH Tryz.prog laidSizes ((World.doorLaid Tryz.prog 14 os).forCall (fun _ _ => 0) ⟨#[], args, []⟩).memory :=
  laidMetH_of_parts3 (fuel := 8) (laidMet_of_run' 8 (by kernel_rfl) (by kernel_rfl)) (by kernel_rfl) (by kernel_rfl)
theorem sizes_lit (H : Type) (j : Nat) (hj : j < 12) : ([.lit (.int .u64 16), .lit (.int .u64 32), .lit (.int .u64 48), .lit (.int .u64 64), .lit (.int .u64 96), .lit (.int .u64 128), .lit (.int .u64 192), .lit (.int .u64 256), .lit (.int .u64 384), .lit (.int .u64 512), .lit (.int .u64 768), .lit (.int .u64 1024)] : List (DataW H))[j]? = some (.lit (.int .u64 ((sizeAt j : Nat) : Int))) := by
  rcases j with _ | _ | _ | _ | _ | _ | _ | _ | _ | _ | _ | _ | j
  all_goals first | omega | rfl
theorem head_of_take {α : Type} {l : List α} {j : Nat} {x : α} (h : (l.drop j).take 1 = [x]) : l[j]? = some x := by
  have : ((l.drop j).take 1)[0]? = some x := by rw [h]; rfl
  simpa using this
theorem lay_of {W : World} (h : laidMetH Tryz.prog laidSizes W) : Lay W := by
  rw [MakeChecks.laidMetH_plain _ _ _ (by kernel_rfl)] at h
  obtain ⟨ps, ⟨g0, t0, cs0, f0, p0, q0, hg0, ht0, hv0, hd0, _, _⟩, _, _⟩ := h
  obtain rfl := Option.some.inj (gSizes.symm.trans hg0)
  obtain rfl := Option.some.inj (tSizes.symm.trans ht0)
  obtain ⟨xs, m1, rfl, hx1, hlen, hn, hel⟩ := DataW.trod_array Tryz.underlying179 hd0
  have c1 : Tryz.prog.cellsOf 38 = 1 := by kernel_rfl
  simp only [Prod.mk.injEq, Rows.laid_allotment_class_sizes, DataW.agg.injEq] at hx1
  intro j hj
  have h1 := hel j hj
  rw [c1, Nat.mul_one] at h1
  have h2 := sizes_lit Unit j hj
  rw [hx1.1, List.getElem?_map] at h2
  cases hxj : xs[j]? with
  | none => rw [hxj] at h2; cases h2
  | some x =>
    rw [hxj] at h1 h2
    obtain ⟨n, e1, e2, _⟩ := DataW.trod_int Tryz.underlying38 h1
    have h3 := Option.some.inj h2
    rw [e2] at h3
    injection h3 with h3
    injection h3 with _ h3
    subst h3
    rw [World.var?_cell hg0 hv0 j]
    have h4 := head_of_take e1
    simpa using h4
end Go.Proofs.YtmjeelnidiijdaaGreatDoor
