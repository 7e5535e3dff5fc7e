/- What the laws of layer 6 need of the program's geo, at whatever world that is as w0 is in w0's blocks (to be proved of the code that landed). -/
import Derived.Test.YtophomnbclgjfaaElems
import Derived.Test.YtophomnbclgjfaaGeoMath
namespace Go.Proofs.Ytophomnbclgjfaa
open Go.RowKit GeoMath
set_option linter.unusedVariables false

def plcV (p : Plc) : Value := .agg #[.int .i64 p.g, .int .i64 p.l, .int .u64 (p.o : Int)]
def runV (f s : Nat) (n : Int) : Value := .agg #[.int .u64 (f : Int), .int .u64 (s : Int), .int .i64 n]
def runC (f s : Nat) (n : Int) : Array Value := #[.int .u64 (f : Int), .int .u64 (s : Int), .int .i64 n]
def Elem.runs : Elem Rn := ⟨3, fun x => [.int .u64 (x.1 : Int), .int .u64 (x.2.1 : Int), .int .i64 x.2.2], fun _ => rfl, by
  intro x u h
  rcases List.mem_cons.1 h with rfl | h
  · rfl
  · rcases List.mem_cons.1 h with rfl | h
    · rfl
    · rw [List.mem_singleton.1 h]; rfl, by decide⟩
abbrev I64B (n : Int) : Prop := -9223372036854775808 ≤ n ∧ n ≤ 9223372036854775807
abbrev U64B (n : Nat) : Prop := n ≤ 18446744073709551615
/-- What may be a run of the program's type. -/
abbrev RnB (x : Rn) : Prop := U64B x.1 ∧ U64B x.2.1 ∧ I64B x.2.2
theorem runs_twoAt (w : World) (t : TypeId) (x y : Rn) (g : Nat) (hg : g = w.heap.size) : Seq Elem.runs (w.alloc (.cells #[.int .u64 (x.1 : Int), .int .u64 (x.2.1 : Int), .int .i64 x.2.2, .int .u64 (y.1 : Int), .int .u64 (y.2.1 : Int), .int .i64 y.2.2] t)) (.slice (some ⟨g, 0, none⟩) 2 2) [x, y] := by
  subst hg; exact Seq.new w t [x, y] 2
theorem runs_oneAt (w : World) (t : TypeId) (x : Rn) (g : Nat) (hg : g = w.heap.size) : Seq Elem.runs (w.alloc (.cells #[.int .u64 (x.1 : Int), .int .u64 (x.2.1 : Int), .int .i64 x.2.2] t)) (.slice (some ⟨g, 0, none⟩) 1 1) [x] := by
  subst hg; exact Seq.new w t [x] 1
theorem rnB {f s : Nat} {n : Int} (h1 : f ≤ 18446744073709551615) (h2 : s ≤ 18446744073709551615) (h3 : -9223372036854775808 ≤ n) (h4 : n ≤ 9223372036854775807) : RnB (f, s, n) := ⟨h1, h2, h3, h4⟩
structure Ge (w0 : World) : Prop where
  at_ : ∀ a : Nat, U64B a → MadeBy w0 11 #[.int .u64 (a : Int)] (.tuple #[plcV (atN a), .int .i64 (atE a)])
  addr : ∀ (g l : Int) (o : Nat), I64B g → I64B l → U64B o → MadeBy w0 13 #[.agg #[.int .i64 g, .int .i64 l, .int .u64 (o : Int)]] (.tuple #[.int .u64 ((addrN g l o : Nat) : Int), .int .i64 (addrE g l o)])
  block : ∀ (f s : Nat) (n i : Int), U64B f → U64B s → I64B n → I64B i → MadeBy w0 15 #[runV f s n, .int .i64 i] (.tuple #[.int .u64 ((blockN f s n i : Nat) : Int), .int .i64 (blockE f s n i)])
  index : ∀ (f s : Nat) (n : Int) (a : Nat), U64B f → U64B s → I64B n → U64B a → MadeBy w0 17 #[runV f s n, .int .u64 (a : Int)] (.tuple #[.int .i64 ((indexN f s n a : Nat) : Int), .int .i64 (indexE f s n a)])
  end_ : ∀ (f s : Nat) (n : Int), U64B f → U64B s → I64B n → MadeBy w0 21 #[runV f s n] (.int .u64 ((endN f s n : Nat) : Int))
  in_ : ∀ (f s : Nat) (n : Int), U64B f → U64B s → I64B n → ∀ w, Below w0.heap.size w0 w → ∀ (a : Option Addr) (k cap : Nat) (l : List Nat), Seq Elem.u64s w (.slice a k cap) l → k ≤ cap → cap ≤ 9223372036854775807 → k ≤ 300 → (∀ x ∈ l, U64B x) →
    Calls Try.prog 19 #[runV f s n, .slice a k cap] w fun e w' => e = .returned (.bool (inN f s n l)) ∧ Below w.heap.size w w'
  meet : ∀ w, Below w0.heap.size w0 w → ∀ (a : Option Addr) (k cap : Nat) (l : List Rn), Seq Elem.runs w (.slice a k cap) l → k ≤ cap → cap ≤ 9223372036854775807 → k ≤ 300 → (∀ x ∈ l, RnB x) →
    Calls Try.prog 25 #[.slice a k cap] w fun e w' => e = .returned (.bool (meetN l)) ∧ Below w.heap.size w w'
theorem Ge.up {w0 w : World} (C : Ge w0) (hb : Below w0.heap.size w0 w) : Ge w where
  at_ a h := (C.at_ a h).up hb
  addr g l o h1 h2 h3 := (C.addr g l o h1 h2 h3).up hb
  block f s n i h1 h2 h3 h4 := (C.block f s n i h1 h2 h3 h4).up hb
  index f s n a h1 h2 h3 h4 := (C.index f s n a h1 h2 h3 h4).up hb
  end_ f s n h1 h2 h3 := (C.end_ f s n h1 h2 h3).up hb
  in_ f s n h1 h2 h3 w' hw := C.in_ f s n h1 h2 h3 w' (below_then hb hb.size hw)
  meet w' hw := C.meet w' (below_then hb hb.size hw)
end Go.Proofs.Ytophomnbclgjfaa
