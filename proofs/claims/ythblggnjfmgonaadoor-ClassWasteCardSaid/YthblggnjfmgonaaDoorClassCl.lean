/- What the laws of layer 5 need of the program's classes, at whatever world that is as w0 is in w0's blocks (to be proved of the code that landed). -/
import Derived.Test.YthblggnjfmgonaaDoorRefC4
import Derived.Test.YthblggnjfmgonaaDoorClassMath2
namespace Go.Proofs.YthblggnjfmgonaaDoor
open Go.RowKit ClassMath
set_option linter.unusedVariables false
def MadeBy (w0 : World) (f : Nat) (args : Array Value) (v : Value) : Prop := ∀ w, Below w0.heap.size w0 w → Calls Tryd.prog f args w fun e w' => e = .returned v ∧ Below w.heap.size w w'
structure Cl (w0 : World) : Prop where
  for_ : ∀ n a : Nat, n ≤ 18446744073709551615 → a ≤ 18446744073709551615 → MadeBy w0 20 #[.int .u64 (n : Int), .int .u64 (a : Int)] (.tuple #[plV (forN n a).1, .int .i64 (forN n a).2])
  of_ : ∀ n : Nat, n ≤ 18446744073709551615 → MadeBy w0 14 #[.int .u64 (n : Int)] (.tuple #[.int .i64 ((ofC (ofN n) : Nat) : Int), .int .i64 (if (ofN n).isSome then 0 else 2)])
  size : ∀ c : Nat, c < 12 → MadeBy w0 11 #[.int .i64 (c : Int)] (.tuple #[.int .u64 ((sizeAt c : Nat) : Int), .int .i64 0])
  size_no : ∀ c : Int, (c < 0 ∨ 12 ≤ c) → MadeBy w0 11 #[.int .i64 c] (.tuple #[.int .u64 0, .int .i64 2])
  slices : ∀ c : Nat, c < 12 → MadeBy w0 12 #[.int .i64 (c : Int)] (.tuple #[.int .i64 ((slicesAt c : Nat) : Int), .int .i64 0])
  slices_no : ∀ c : Int, (c < 0 ∨ 12 ≤ c) → MadeBy w0 12 #[.int .i64 c] (.tuple #[.int .i64 0, .int .i64 2])
  blocks : ∀ c : Nat, c < 12 → MadeBy w0 13 #[.int .i64 (c : Int)] (.tuple #[.int .i64 ((blocksAt c : Nat) : Int), .int .i64 0])
  blocks_no : ∀ c : Int, (c < 0 ∨ 12 ≤ c) → MadeBy w0 13 #[.int .i64 c] (.tuple #[.int .i64 0, .int .i64 2])
theorem Blk.grew {w w' : World} {g : Nat} {t : TypeId} {cs : Array Value} (h : Blk w g t cs) (hb : Below w.heap.size w w') : Blk w' g t cs := h.upd (updFalse_of hb) id
/-- A plan's cells. -/
def plC (p : Pl) : Array Value := #[.int .i64 p.c, .int .i64 (p.sl : Int), .int .i64 (p.sg : Int), .int .u64 (p.us : Int)]
end Go.Proofs.YthblggnjfmgonaaDoor
