/- What the laws of layer 8 need of the program's cells, at any place of any block (to be proved of the code that landed). -/
import Derived.Test.YtgaecgijmnkdgaaElems
import Derived.Test.YtgaecgijmnkdgaaPlaces
namespace Go.Proofs.Ytgaecgijmnkdgaa
open Go.RowKit
set_option linter.unusedVariables false

/-- A cell at a place: its word, its tag, how often it was asked (in the order in which the program's struct has them). -/
def CC (w : World) (b o x t : Nat) (n : Int) : Prop := ∃ ty cs, Blk w b ty cs ∧ cs[o]? = some (.int .u64 (x : Int)) ∧ cs[o + 1]? = some (.int .u64 (t : Int)) ∧ cs[o + 2]? = some (.int .i64 n)
/-- Its cells. -/
def CPl (b o : Nat) (c i : Nat) : Prop := c = b ∧ (i = o ∨ i = o + 1 ∨ i = o + 2)
theorem CC.lt {w : World} {b o x t : Nat} {n : Int} (h : CC w b o x t n) : b < w.heap.size := by obtain ⟨ty, cs, k, _⟩ := h; exact k.lt
theorem CC.upd {S : Nat → Prop} {w w' : World} {b o x t : Nat} {n : Int} (h : CC w b o x t n) (u : Upd S w w') (hs : ¬ S b) : CC w' b o x t n := by obtain ⟨ty, cs, k, e⟩ := h; exact ⟨ty, cs, k.upd u hs, e⟩
def Elem.ptrs : Elem (Option Addr) := ⟨1, fun a => [.pointer a], fun _ => rfl, by intro x u h; rw [List.mem_singleton.1 h]; rfl, by decide⟩
def sumI : List Int → Int
  | [] => 0
  | a :: t => a + sumI t
abbrev TagB (t : Nat) : Prop := t ≤ 1000000000
abbrev AskB (n : Int) : Prop := 0 ≤ n ∧ n ≤ 1000000000
/-- A cell of a law's own. -/
structure OC (w : World) (b x t : Nat) (n : Int) (w' : World) : Prop where
  cc : CC w' b 0 x t n
  fb : w.heap.size ≤ b
  below : Below w.heap.size w w'
theorem OC.turn {w w' w2 : World} {b x t y s : Nat} {n m : Int} (h : OC w b x t n w') (c : CC w2 b 0 y s m) (W : Wrt (fun _ => False) (CPl b 0) w' w2) : OC w b y s m w2 :=
  ⟨c, h.fb, h.below.trans (W.below (fun _ h => h.elim) (fun c i hc => by rw [hc.1]; exact h.fb) h.below.size)⟩
theorem OC.grew {w w' w2 : World} {b x t : Nat} {n : Int} (h : OC w b x t n w') (hb : Below w'.heap.size w' w2) : OC w b x t n w2 := ⟨h.cc.upd (updFalse_of hb) id, h.fb, below_then h.below h.below.size hb⟩
theorem OC.new {w w1 : World} (ty : TypeId) (hb : Below w.heap.size w w1) {b : Nat} (e : w1.heap.size = b) : OC w b 0 0 0 (w1.alloc (.cells #[.int .u64 0, .int .u64 0, .int .i64 0] ty)) := by
  subst e
  exact ⟨⟨ty, _, Blk.new w1 ty _, rfl, rfl, rfl⟩, hb.size, hb.alloc hb.size _⟩
section
variable {w : World} {b x t : Nat} {n : Int}
end
theorem ptr_oneAt (w : World) (t : TypeId) (a : Option Addr) (g : Nat) (hg : g = w.heap.size) : Seq Elem.ptrs (w.alloc (.cells #[.pointer a] t)) (.slice (some ⟨g, 0, none⟩) 1 1) [a] := by
  subst hg; exact Seq.new w t [a] 1
theorem ptr_twoAt (w : World) (t : TypeId) (a a' : Option Addr) (g : Nat) (hg : g = w.heap.size) : Seq Elem.ptrs (w.alloc (.cells #[.pointer a, .pointer a'] t)) (.slice (some ⟨g, 0, none⟩) 2 2) [a, a'] := by
  subst hg; exact Seq.new w t [a, a'] 2
end Go.Proofs.Ytgaecgijmnkdgaa
