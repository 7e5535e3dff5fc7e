/- Elements of slices (uint64, runs), and small facts on worlds that each layer wants. Over whatever program with uint64. -/
import Derived.Test.YtclmdjkihijciaaReads
import Derived.Test.YtclmdjkihijciaaRows
import Derived.Lib.Hide
import Derived.WalkSpells
import Derived.WalkLawsBesides
import Derived.Outline
import Derived.Deep.Draws
namespace Go.Proofs.Ytclmdjkihijciaa
open Go.RowKit
set_option linter.unusedVariables false

abbrev U64B (n : Nat) : Prop := n ≤ 18446744073709551615
theorem updFalse_of {w w' : World} (h : Below w.heap.size w w') : Upd (fun _ => False) w w' := ⟨h.os, h.tape, h.output, h.size, fun k hk _ => h.block k hk⟩
theorem Blk.grew {w w' : World} {g : Nat} {t : TypeId} {cs : Array Value} (h : Blk w g t cs) (hb : Below w.heap.size w w') : Blk w' g t cs := h.upd (updFalse_of hb) id
theorem u64_in (n : Int) (h : 0 ≤ n ∧ n ≤ 18446744073709551615) : IntKind.u64.wrap n = n := by
  simp [IntKind.wrap, IntKind.bits, IntKind.signed]; omega
theorem below_alloc2 {B : Nat} {a w : World} (h : Below B a w) (hB : B ≤ w.heap.size) (o p : Obj) : Below B a ((w.alloc o).alloc p) := (h.alloc hB o).alloc (Nat.le_trans hB (by simp)) p
theorem below_then {B : Nat} {a w w1 : World} (h : Below B a w) (hB : B ≤ w.heap.size) (k : Below w.heap.size w w1) : Below B a w1 := h.trans (k.mono hB)
theorem below_drewN {B : Nat} {a w : World} (h : Below B a w) (n : Nat) : Below B a (w.drewN n) := ⟨h.os, h.tape, h.output, h.size, h.block⟩
theorem ret_u1 {a c : Int} (h1 : a = c) : Ending.returned (.int .u64 a) = .returned (.int .u64 c) := by rw [h1]
theorem ret_u2 {a b c d : Int} (h1 : a = c) (h2 : b = d) : Ending.returned (.tuple #[.int .u64 a, .int .i64 b]) = .returned (.tuple #[.int .u64 c, .int .i64 d]) := by rw [h1, h2]
theorem ret_i2 {a b c d : Int} (h1 : a = c) (h2 : b = d) : Ending.returned (.tuple #[.int .i64 a, .int .i64 b]) = .returned (.tuple #[.int .i64 c, .int .i64 d]) := by rw [h1, h2]
/-- f answers v, at every world that is as w0 is in w0's blocks. -/
def MadeBy (w0 : World) (f : Nat) (args : Array Value) (v : Value) : Prop := ∀ w, Below w0.heap.size w0 w → Calls Try.prog f args w fun e w' => e = .returned v ∧ Below w.heap.size w w'
theorem MadeBy.up {w0 w : World} {f : Nat} {args : Array Value} {v : Value} (h : MadeBy w0 f args v) (hb : Below w0.heap.size w0 w) : MadeBy w f args v := fun w' hw => h w' (below_then hb hb.size hw)
def Elem.u64s : Elem Nat := ⟨1, fun n => [.int .u64 (n : Int)], fun _ => rfl, by intro x u h; rw [List.mem_singleton.1 h]; rfl, by decide⟩
theorem NumsAt.seqI {w : World} {v : Value} {l : List Int} (h : NumsAt w .i64 v l) : Seq Elem.ints w v l := by
  obtain ⟨a, cap, rfl, _, _, h3, h4, _⟩ := h
  by_cases h0 : 0 < l.length
  · obtain ⟨b, off, rfl, _⟩ := h4 0 h0
    refine .inl ⟨b, off, cap, rfl, fun j u hj => ?_⟩
    have hjl : j < l.length := by have := (List.getElem?_eq_some_iff.1 hj).1; rw [Elem.length_all] at this; simpa [Elem.ints] using this
    obtain ⟨b', off', e, hc⟩ := h4 j hjl
    injection e with e
    injection e with eb eo _
    subst eb eo
    rw [hc]
    have h5 := Elem.ints.all_at (l := l) (i := j) (x := l.getD j 0) (by simp [List.getD_eq_getElem?_getD, hjl]) 0 (by decide)
    rw [show j * Elem.ints.size + 0 = j by simp [Elem.ints]] at h5
    rw [h5] at hj
    simpa [Elem.ints] using hj
  · have hl : l = [] := List.length_eq_zero_iff.1 (by omega)
    subst hl
    exact .inr ⟨rfl, _, _, rfl, h3⟩
theorem all_u64s (l : List Nat) : Elem.u64s.all l = l.map (fun n : Nat => Value.int .u64 (n : Int)) := by
  induction l with
  | nil => rfl
  | cons x t ih => rw [Elem.all_cons, ih]; rfl
theorem in_blk {b o n c k : Nat} (h : In (.slice (some ⟨b, o, none⟩) n c) k) : b = k := by injection h
theorem u64_oneAt (w : World) (t : TypeId) (x g : Nat) (hg : g = w.heap.size) : Seq Elem.u64s (w.alloc (.cells #[.int .u64 (x : Int)] t)) (.slice (some ⟨g, 0, none⟩) 1 1) [x] := by
  subst hg; exact Seq.new w t [x] 1
theorem u64_twoAt (w : World) (t : TypeId) (x y g : Nat) (hg : g = w.heap.size) : Seq Elem.u64s (w.alloc (.cells #[.int .u64 (x : Int), .int .u64 (y : Int)] t)) (.slice (some ⟨g, 0, none⟩) 2 2) [x, y] := by
  subst hg; exact Seq.new w t [x, y] 2
theorem Vec.slice' {α : Type} {E : Elem α} {w : World} {v : Value} {l : List α} (h : Vec E w v l) : ∃ a cap, v = .slice a l.length cap ∧ l.length ≤ cap ∧ cap ≤ 9223372036854775807 := by
  rcases h with ⟨rfl, rfl⟩ | ⟨g, off, cap, rfl, _, h1, h2, _⟩
  · exact ⟨none, 0, rfl, by simp, by omega⟩
  · exact ⟨_, cap, rfl, h1, by simp only [maxLen] at h2; omega⟩
theorem vec_below {B : Nat} {a w1 w2 : World} {v1 : Value} (hb : Below B a w1) (hB : B ≤ w1.heap.size) (hin : ∀ k, In v1 k → B ≤ k) (u : Upd (In v1) w1 w2) : Below B a w2 := hb.trans (u.below hin hB)
theorem infoU64 : (Try.prog.info? 33).map (fun i => (i.zero, i.size, i.bytes)) = some (some (.int .u64 0), 1, 8) := by kernel_rfl
end Go.Proofs.Ytclmdjkihijciaa
