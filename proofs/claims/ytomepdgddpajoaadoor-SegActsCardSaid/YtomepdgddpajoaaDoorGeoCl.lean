/- What the laws of layer 6 need of the program's geo, at whatever world that is as w0 is in w0's blocks (to be proved of the code that landed). -/
import Derived.Test.YtomepdgddpajoaaDoorElems
import Derived.Test.YtomepdgddpajoaaDoorGeoMath
namespace Go.Proofs.YtomepdgddpajoaaDoor
open Go.RowKit GeoMath
set_option linter.unusedVariables false

def plcV (p : Plc) : Value := .agg #[.int .i64 p.g, .int .i64 p.l, .int .u64 (p.o : Int)]
def runV (f s : Nat) (n : Int) : Value := .agg #[.int .u64 (f : Int), .int .u64 (s : Int), .int .i64 n]
def runC (f s : Nat) (n : Int) : Array Value := #[.int .u64 (f : Int), .int .u64 (s : Int), .int .i64 n]
def Elem.runs : Elem Rn := ⟨3, fun x => [.int .u64 (x.1 : Int), .int .u64 (x.2.1 : Int), .int .i64 x.2.2], fun _ => rfl, by
  intro x u h
  rcases List.mem_cons.1 h with rfl | h
  · rfl
  · rcases List.mem_cons.1 h with rfl | h
    · rfl
    · rw [List.mem_singleton.1 h]; rfl, by decide⟩
abbrev I64B (n : Int) : Prop := -9223372036854775808 ≤ n ∧ n ≤ 9223372036854775807
/-- What may be a run of the program's type. -/
abbrev RnB (x : Rn) : Prop := U64B x.1 ∧ U64B x.2.1 ∧ I64B x.2.2
theorem runs_twoAt (w : World) (t : TypeId) (x y : Rn) (g : Nat) (hg : g = w.heap.size) : Seq Elem.runs (w.alloc (.cells #[.int .u64 (x.1 : Int), .int .u64 (x.2.1 : Int), .int .i64 x.2.2, .int .u64 (y.1 : Int), .int .u64 (y.2.1 : Int), .int .i64 y.2.2] t)) (.slice (some ⟨g, 0, none⟩) 2 2) [x, y] := by
  subst hg; exact Seq.new w t [x, y] 2
theorem runs_oneAt (w : World) (t : TypeId) (x : Rn) (g : Nat) (hg : g = w.heap.size) : Seq Elem.runs (w.alloc (.cells #[.int .u64 (x.1 : Int), .int .u64 (x.2.1 : Int), .int .i64 x.2.2] t)) (.slice (some ⟨g, 0, none⟩) 1 1) [x] := by
  subst hg; exact Seq.new w t [x] 1
theorem rnB {f s : Nat} {n : Int} (h1 : f ≤ 18446744073709551615) (h2 : s ≤ 18446744073709551615) (h3 : -9223372036854775808 ≤ n) (h4 : n ≤ 9223372036854775807) : RnB (f, s, n) := ⟨h1, h2, h3, h4⟩
end Go.Proofs.YtomepdgddpajoaaDoor
