/- The region of the document's Fill that draws its order, state by state. Written by genmove.py. -/
import Derived.Test.YtolccandekgmoaaRefQ11c
namespace Go.Proofs.Ytolccandekgmoaa.MvF
open Go.RowKit QueueMath
set_option linter.unusedVariables false
set_option maxRecDepth 100000

theorem vec_empty11 (w : World) (g : Nat) (h : g < w.heap.size) : Vec Elem.ints w (.slice (some ⟨g, 0, none⟩) 0 0) [] :=
  .inr ⟨g, 0, 0, rfl, h, Nat.le_refl _, by simp [maxLen], fun j u hj => by simp [Elem.all] at hj, fun j hj => by simp at hj⟩
theorem seq_one11 (w : World) (g : Nat) {x : Int} (h : w.cell? ⟨g, 0, none⟩ = some (.int .i64 x)) : Seq Elem.ints w (.slice (some ⟨g, 0, none⟩) 1 1) [x] :=
  Seq.at rfl fun j u hj => by
    have hj0 : j = 0 := by
      have := (List.getElem?_eq_some_iff.1 hj).1
      rw [Elem.length_all] at this
      simp [Elem.ints] at this; omega
    subst hj0
    have e : u = .int .i64 x := by simpa [Elem.all, Elem.ints] using hj.symm
    rw [e]; exact h
theorem cell_keep11 {w w' : World} {g : Nat} {v : Value} {S : Nat → Prop} (u : Upd S w w') (hg : ¬ S g) (h : w.cell? ⟨g, 0, none⟩ = some v) : w'.cell? ⟨g, 0, none⟩ = some v :=
  (World.cell?_of_block (w := w) (u.block g (World.block_lt_of_cell? w _ h) hg)).trans h
theorem step_run {P : Program} {w w' : World} {ops : Array Oper} {o : Oper} {a : Act} {K : Act → World → Prop} {Q : Exit → Act → World → Prop} {X : Prop} {v : Value} (hgd : o.guard = none)
    (hrun : (execOp a.eval o).run P w = .ok (.value v) w') (h : K (a.put o.dst v) w') : if Region.wanted o (yielded ops a.tmps) = true then Oper.wp P o a w K Q else X := by
  have hw : Region.wanted o (yielded ops a.tmps) = true := by simp [Region.wanted, hgd]
  rw [if_pos hw]
  unfold Oper.wp
  rw [hrun]
  exact h
theorem step_skip {P : Program} {w w' : World} {ops : Array Oper} {o : Oper} {a : Act} {K : Act → World → Prop} {Q : Exit → Act → World → Prop} {X : Prop} (hgd : o.guard = none)
    (hrun : (execOp a.eval o).run P w = .ok .skip w') (h : K (a.put o.dst undef) w') : if Region.wanted o (yielded ops a.tmps) = true then Oper.wp P o a w K Q else X := by
  have hw : Region.wanted o (yielded ops a.tmps) = true := by simp [Region.wanted, hgd]
  rw [if_pos hw]
  unfold Oper.wp
  rw [hrun]
  exact h

/-- The frame: what each operation yields. -/
def fr (m : Nat) (x k1 : Int) (vA s17 s19 s20 s24 s25 s27 s28 s29 s30 s31 s32 : Value) : Act :=
  ⟨#[.pointer (some ⟨m, 0, none⟩), .int .i64 x, undef, undef, .int .i64 0, .pointer (some ⟨m, 0, none⟩), .pointer (some ⟨m, 0, none⟩), .pointer (some ⟨m, 0, none⟩), vA, .int .i64 x, .int .i64 k1, .bool false, .pointer (some ⟨m, 0, none⟩), .pointer (some ⟨m, 0, none⟩), .pointer (some ⟨m, 0, none⟩), .pointer (some ⟨m, 0, none⟩), .pointer (some ⟨m, 0, none⟩), s17, .int .i64 x, s19, s20, .pointer (some ⟨m, 0, none⟩), .pointer (some ⟨m, 0, none⟩), .pointer (some ⟨m, 1, none⟩), s24, s25, .int .i64 x, s27, s28, s29, s30, s31, s32], []⟩
section
variable {m : Nat} {x k1 : Int} {vA s17 s19 s20 s24 s25 s27 s28 s29 s30 s31 s32 v : Value}

theorem put17 : (fr m x k1 vA s17 s19 s20 s24 s25 s27 s28 s29 s30 s31 s32).put (some 17) v = fr m x k1 vA v s19 s20 s24 s25 s27 s28 s29 s30 s31 s32 := rfl
theorem put19 : (fr m x k1 vA s17 s19 s20 s24 s25 s27 s28 s29 s30 s31 s32).put (some 19) v = fr m x k1 vA s17 v s20 s24 s25 s27 s28 s29 s30 s31 s32 := rfl
theorem put20 : (fr m x k1 vA s17 s19 s20 s24 s25 s27 s28 s29 s30 s31 s32).put (some 20) v = fr m x k1 vA s17 s19 v s24 s25 s27 s28 s29 s30 s31 s32 := rfl
theorem put24 : (fr m x k1 vA s17 s19 s20 s24 s25 s27 s28 s29 s30 s31 s32).put (some 24) v = fr m x k1 vA s17 s19 s20 v s25 s27 s28 s29 s30 s31 s32 := rfl
theorem put25 : (fr m x k1 vA s17 s19 s20 s24 s25 s27 s28 s29 s30 s31 s32).put (some 25) v = fr m x k1 vA s17 s19 s20 s24 v s27 s28 s29 s30 s31 s32 := rfl
theorem put27 : (fr m x k1 vA s17 s19 s20 s24 s25 s27 s28 s29 s30 s31 s32).put (some 27) v = fr m x k1 vA s17 s19 s20 s24 s25 v s28 s29 s30 s31 s32 := rfl
theorem put28 : (fr m x k1 vA s17 s19 s20 s24 s25 s27 s28 s29 s30 s31 s32).put (some 28) v = fr m x k1 vA s17 s19 s20 s24 s25 s27 v s29 s30 s31 s32 := rfl
theorem put29 : (fr m x k1 vA s17 s19 s20 s24 s25 s27 s28 s29 s30 s31 s32).put (some 29) v = fr m x k1 vA s17 s19 s20 s24 s25 s27 s28 v s30 s31 s32 := rfl
theorem put30 : (fr m x k1 vA s17 s19 s20 s24 s25 s27 s28 s29 s30 s31 s32).put (some 30) v = fr m x k1 vA s17 s19 s20 s24 s25 s27 s28 s29 v s31 s32 := rfl
theorem put31 : (fr m x k1 vA s17 s19 s20 s24 s25 s27 s28 s29 s30 s31 s32).put (some 31) v = fr m x k1 vA s17 s19 s20 s24 s25 s27 s28 s29 s30 v s32 := rfl
theorem put32 : (fr m x k1 vA s17 s19 s20 s24 s25 s27 s28 s29 s30 s31 s32).put (some 32) v = fr m x k1 vA s17 s19 s20 s24 s25 s27 s28 s29 s30 s31 v := rfl
theorem putN : (fr m x k1 vA s17 s19 s20 s24 s25 s27 s28 s29 s30 s31 s32).put none v = fr m x k1 vA s17 s19 s20 s24 s25 s27 s28 s29 s30 s31 s32 := rfl
end
/-- The operations, and which may come up when. -/
structure Shape (ops : Array Oper) : Prop where
  o5 : ∃ ty ps af, ops[5]? = some ⟨some 17, .load 23 (.tmp 16), ty, ps, af, none⟩
  o7 : ∃ ty ps af, ops[7]? = some ⟨some 19, .call { callee := .value (.func 27), args := #[.tmp 17, .tmp 18], argTypes := #[23, 3] }, ty, ps, af, none⟩
  o8 : ∃ ty ps af, ops[8]? = some ⟨some 20, .buildSlice 23 0 #[], ty, ps, af, none⟩
  o12 : ∃ ty ps af, ops[12]? = some ⟨some 24, .load 23 (.tmp 23), ty, ps, af, none⟩
  o13 : ∃ ty ps af, ops[13]? = some ⟨some 25, .call { callee := .builtin .append, args := #[.tmp 20, .tmp 24], argTypes := #[23, 23] }, ty, ps, af, none⟩
  o15 : ∃ ty ps af, ops[15]? = some ⟨some 27, .buildSlice 23 1 #[(0, .tmp 26)], ty, ps, af, none⟩
  o16 : ∃ ty ps af, ops[16]? = some ⟨some 28, .call { callee := .builtin .append, args := #[.tmp 25, .tmp 27], argTypes := #[23, 23] }, ty, ps, af, none⟩
  o17 : ∃ ty ps af, ops[17]? = some ⟨some 29, .nilCheck (.tmp 12), ty, ps, af, none⟩
  o18 : ∃ ty ps af, ops[18]? = some ⟨some 30, .fieldAddr 31 (.tmp 29) 0, ty, ps, af, none⟩
  o19 : ∃ ty ps af, ops[19]? = some ⟨none, .store 23 (.tmp 30) (.tmp 19), ty, ps, af, none⟩
  o20 : ∃ ty ps af, ops[20]? = some ⟨some 31, .nilCheck (.tmp 13), ty, ps, af, none⟩
  o21 : ∃ ty ps af, ops[21]? = some ⟨some 32, .fieldAddr 31 (.tmp 31) 1, ty, ps, af, none⟩
  o22 : ∃ ty ps af, ops[22]? = some ⟨none, .store 23 (.tmp 32) (.tmp 28), ty, ps, af, none⟩
  t13 : ∀ o, ops[13]? = some o → o.type = 23
  t16 : ∀ o, ops[16]? = some o → o.type = 23
  r : Region.ready .any ops #[true, true, true, true, true, false, true, false, false, true, true, true, false, false, true, false, false, false, false, false, false, false, false] = [5, 8, 12, 15]
  r_5 : Region.ready .any ops #[true, true, true, true, true, true, true, false, false, true, true, true, false, false, true, false, false, false, false, false, false, false, false] = [7, 8, 12, 15]
  r_5_7 : Region.ready .any ops #[true, true, true, true, true, true, true, true, false, true, true, true, false, false, true, false, false, false, false, false, false, false, false] = [8, 12, 15]
  r_5_7_8 : Region.ready .any ops #[true, true, true, true, true, true, true, true, true, true, true, true, false, false, true, false, false, false, false, false, false, false, false] = [12, 15]
  r_5_7_8_12 : Region.ready .any ops #[true, true, true, true, true, true, true, true, true, true, true, true, true, false, true, false, false, false, false, false, false, false, false] = [13, 15]
  r_5_7_8_12_13 : Region.ready .any ops #[true, true, true, true, true, true, true, true, true, true, true, true, true, true, true, false, false, false, false, false, false, false, false] = [15]
  r_5_7_8_12_13_15 : Region.ready .any ops #[true, true, true, true, true, true, true, true, true, true, true, true, true, true, true, true, false, false, false, false, false, false, false] = [16]
  r_5_7_8_12_13_15_16 : Region.ready .any ops #[true, true, true, true, true, true, true, true, true, true, true, true, true, true, true, true, true, false, false, false, false, false, false] = [17]
  r_5_7_8_12_15 : Region.ready .any ops #[true, true, true, true, true, true, true, true, true, true, true, true, true, false, true, true, false, false, false, false, false, false, false] = [13]
  r_5_7_8_15 : Region.ready .any ops #[true, true, true, true, true, true, true, true, true, true, true, true, false, false, true, true, false, false, false, false, false, false, false] = [12]
  r_5_7_12 : Region.ready .any ops #[true, true, true, true, true, true, true, true, false, true, true, true, true, false, true, false, false, false, false, false, false, false, false] = [8, 15]
  r_5_7_12_15 : Region.ready .any ops #[true, true, true, true, true, true, true, true, false, true, true, true, true, false, true, true, false, false, false, false, false, false, false] = [8]
  r_5_7_15 : Region.ready .any ops #[true, true, true, true, true, true, true, true, false, true, true, true, false, false, true, true, false, false, false, false, false, false, false] = [8, 12]
  r_5_8 : Region.ready .any ops #[true, true, true, true, true, true, true, false, true, true, true, true, false, false, true, false, false, false, false, false, false, false, false] = [7, 12, 15]
  r_5_8_12 : Region.ready .any ops #[true, true, true, true, true, true, true, false, true, true, true, true, true, false, true, false, false, false, false, false, false, false, false] = [7, 15]
  r_5_8_12_15 : Region.ready .any ops #[true, true, true, true, true, true, true, false, true, true, true, true, true, false, true, true, false, false, false, false, false, false, false] = [7]
  r_5_8_15 : Region.ready .any ops #[true, true, true, true, true, true, true, false, true, true, true, true, false, false, true, true, false, false, false, false, false, false, false] = [7, 12]
  r_5_12 : Region.ready .any ops #[true, true, true, true, true, true, true, false, false, true, true, true, true, false, true, false, false, false, false, false, false, false, false] = [7, 8, 15]
  r_5_12_15 : Region.ready .any ops #[true, true, true, true, true, true, true, false, false, true, true, true, true, false, true, true, false, false, false, false, false, false, false] = [7, 8]
  r_5_15 : Region.ready .any ops #[true, true, true, true, true, true, true, false, false, true, true, true, false, false, true, true, false, false, false, false, false, false, false] = [7, 8, 12]
  r_8 : Region.ready .any ops #[true, true, true, true, true, false, true, false, true, true, true, true, false, false, true, false, false, false, false, false, false, false, false] = [5, 12, 15]
  r_8_12 : Region.ready .any ops #[true, true, true, true, true, false, true, false, true, true, true, true, true, false, true, false, false, false, false, false, false, false, false] = [5, 15]
  r_8_12_15 : Region.ready .any ops #[true, true, true, true, true, false, true, false, true, true, true, true, true, false, true, true, false, false, false, false, false, false, false] = [5]
  r_8_15 : Region.ready .any ops #[true, true, true, true, true, false, true, false, true, true, true, true, false, false, true, true, false, false, false, false, false, false, false] = [5, 12]
  r_12 : Region.ready .any ops #[true, true, true, true, true, false, true, false, false, true, true, true, true, false, true, false, false, false, false, false, false, false, false] = [5, 8, 15]
  r_12_15 : Region.ready .any ops #[true, true, true, true, true, false, true, false, false, true, true, true, true, false, true, true, false, false, false, false, false, false, false] = [5, 8]
  r_15 : Region.ready .any ops #[true, true, true, true, true, false, true, false, false, true, true, true, false, false, true, true, false, false, false, false, false, false, false] = [5, 8, 12]
  q17 : Region.ready .any ops #[true, true, true, true, true, true, true, true, true, true, true, true, true, true, true, true, true, true, false, false, false, false, false] = [18]
  q18 : Region.ready .any ops #[true, true, true, true, true, true, true, true, true, true, true, true, true, true, true, true, true, true, true, false, false, false, false] = [19]
  q19 : Region.ready .any ops #[true, true, true, true, true, true, true, true, true, true, true, true, true, true, true, true, true, true, true, true, false, false, false] = [20]
  q20 : Region.ready .any ops #[true, true, true, true, true, true, true, true, true, true, true, true, true, true, true, true, true, true, true, true, true, false, false] = [21]
  q21 : Region.ready .any ops #[true, true, true, true, true, true, true, true, true, true, true, true, true, true, true, true, true, true, true, true, true, true, false] = [22]
  q22 : Region.ready .any ops #[true, true, true, true, true, true, true, true, true, true, true, true, true, true, true, true, true, true, true, true, true, true, true] = []
  sz : ops.size = 23
  ns : Region.noSelect ops = true
  o0 : ∃ ty ps af, ops[0]? = some ⟨some 12, .move (.tmp 0), ty, ps, af, none⟩
  f0 : Region.free .any ops #[false, false, false, false, false, false, false, false, false, false, false, false, false, false, false, false, false, false, false, false, false, false, false] 0 = true
  c0 : (Region.ready .any ops #[false, false, false, false, false, false, false, false, false, false, false, false, false, false, false, false, false, false, false, false, false, false, false]).contains 0 = true
  o1 : ∃ ty ps af, ops[1]? = some ⟨some 13, .move (.tmp 0), ty, ps, af, none⟩
  f1 : Region.free .any ops #[true, false, false, false, false, false, false, false, false, false, false, false, false, false, false, false, false, false, false, false, false, false, false] 1 = true
  c1 : (Region.ready .any ops #[true, false, false, false, false, false, false, false, false, false, false, false, false, false, false, false, false, false, false, false, false, false, false]).contains 1 = true
  o2 : ∃ ty ps af, ops[2]? = some ⟨some 14, .move (.tmp 0), ty, ps, af, none⟩
  f2 : Region.free .any ops #[true, true, false, false, false, false, false, false, false, false, false, false, false, false, false, false, false, false, false, false, false, false, false] 2 = true
  c2 : (Region.ready .any ops #[true, true, false, false, false, false, false, false, false, false, false, false, false, false, false, false, false, false, false, false, false, false, false]).contains 2 = true
  o3 : ∃ ty ps af, ops[3]? = some ⟨some 15, .nilCheck (.tmp 14), ty, ps, af, none⟩
  f3 : Region.free .any ops #[true, true, true, false, false, false, false, false, false, false, false, false, false, false, false, false, false, false, false, false, false, false, false] 3 = true
  c3 : (Region.ready .any ops #[true, true, true, false, false, false, false, false, false, false, false, false, false, false, false, false, false, false, false, false, false, false, false]).contains 3 = true
  o4 : ∃ ty ps af, ops[4]? = some ⟨some 16, .fieldAddr 31 (.tmp 15) 0, ty, ps, af, none⟩
  f4 : Region.free .any ops #[true, true, true, true, false, false, false, false, false, false, false, false, false, false, false, false, false, false, false, false, false, false, false] 4 = true
  c4 : (Region.ready .any ops #[true, true, true, true, false, false, false, false, false, false, false, false, false, false, false, false, false, false, false, false, false, false, false]).contains 4 = true
  o6 : ∃ ty ps af, ops[6]? = some ⟨some 18, .move (.tmp 1), ty, ps, af, none⟩
  f6 : Region.free .any ops #[true, true, true, true, true, false, false, false, false, false, false, false, false, false, false, false, false, false, false, false, false, false, false] 6 = true
  c6 : (Region.ready .any ops #[true, true, true, true, true, false, false, false, false, false, false, false, false, false, false, false, false, false, false, false, false, false, false]).contains 6 = true
  o9 : ∃ ty ps af, ops[9]? = some ⟨some 21, .move (.tmp 0), ty, ps, af, none⟩
  f9 : Region.free .any ops #[true, true, true, true, true, false, true, false, false, false, false, false, false, false, false, false, false, false, false, false, false, false, false] 9 = true
  c9 : (Region.ready .any ops #[true, true, true, true, true, false, true, false, false, false, false, false, false, false, false, false, false, false, false, false, false, false, false]).contains 9 = true
  o10 : ∃ ty ps af, ops[10]? = some ⟨some 22, .nilCheck (.tmp 21), ty, ps, af, none⟩
  f10 : Region.free .any ops #[true, true, true, true, true, false, true, false, false, true, false, false, false, false, false, false, false, false, false, false, false, false, false] 10 = true
  c10 : (Region.ready .any ops #[true, true, true, true, true, false, true, false, false, true, false, false, false, false, false, false, false, false, false, false, false, false, false]).contains 10 = true
  o11 : ∃ ty ps af, ops[11]? = some ⟨some 23, .fieldAddr 31 (.tmp 22) 1, ty, ps, af, none⟩
  f11 : Region.free .any ops #[true, true, true, true, true, false, true, false, false, true, true, false, false, false, false, false, false, false, false, false, false, false, false] 11 = true
  c11 : (Region.ready .any ops #[true, true, true, true, true, false, true, false, false, true, true, false, false, false, false, false, false, false, false, false, false, false, false]).contains 11 = true
  o14 : ∃ ty ps af, ops[14]? = some ⟨some 26, .move (.tmp 1), ty, ps, af, none⟩
  f14 : Region.free .any ops #[true, true, true, true, true, false, true, false, false, true, true, true, false, false, false, false, false, false, false, false, false, false, false] 14 = true
  c14 : (Region.ready .any ops #[true, true, true, true, true, false, true, false, false, true, true, true, false, false, false, false, false, false, false, false, false, false, false]).contains 14 = true
/-- What is known of all worlds since. -/
structure Ctx (w : World) (m : Nat) (x : Int) (vA vB : Value) (LA LB : List Int) : Prop where
  doc : ∀ W, Below w.heap.size w W → W.cell? ⟨m, 0, none⟩ = some vA ∧ W.cell? ⟨m, 1, none⟩ = some vB ∧ W.frozen? ⟨m, 0, none⟩ = false ∧ W.frozen? ⟨m, 1, none⟩ = false ∧ Seq Elem.ints W vB LB ∧
    Calls Try.prog 27 #[vA, .int .i64 x] W (fun e w2 => ∃ v', e = .returned v' ∧ Vec Elem.ints w2 v' LA ∧ (∀ k, In v' k → W.heap.size ≤ k) ∧ Below W.heap.size W w2)
  len : LB.length ≤ 1000000
  sA : ∃ a n c, vA = .slice a n c
  sB : ∃ a n c, vB = .slice a n c
section
variable {w : World} {m : Nat} {x k1 : Int} {vA vB : Value} {LA LB : List Int} {ops : Array Oper} {Q : Exit → Act → World → Prop}
/-- What follows. -/
def Fin (w : World) (m : Nat) (x k1 : Int) (vA vB : Value) (LA LB : List Int) (Q : Exit → Act → World → Prop) : Prop :=
  ∀ (W : World) (aA aB : Option Addr) (nA cA nB cB : Nat) (s20 s25 s27 : Value), Below w.heap.size w W → Vec Elem.ints W (.slice aA nA cA) LA → Vec Elem.ints W (.slice aB nB cB) ([] ++ LB ++ [x]) → (∀ k, In (.slice aA nA cA) k → w.heap.size ≤ k) → (∀ k, In (.slice aB nB cB) k → w.heap.size ≤ k) →
    Q .normal (fr m x k1 vA vA (.slice aA nA cA) s20 vB s25 s27 (.slice aB nB cB) (.pointer (some ⟨m, 0, none⟩)) (.pointer (some ⟨m, 0, none⟩)) (.pointer (some ⟨m, 0, none⟩)) (.pointer (some ⟨m, 1, none⟩))) ((W.setCell ⟨m, 0, none⟩ (.slice aA nA cA)).setCell ⟨m, 1, none⟩ (.slice aB nB cB))

set_option maxHeartbeats 2000000 in
theorem st_5_7_8_12_13_15_16 {g0 g1 : Nat} {s25 : Value} (sh : Shape ops) (C : Ctx w m x vA vB LA LB) (hF : Fin w m x k1 vA vB LA LB Q) {W : World} {s19 : Value} {s28 : Value} (BW : Below w.heap.size w W) (VA : Vec Elem.ints W s19 LA) (NA : ∀ k, In s19 k → w.heap.size ≤ k) (V7 : Vec Elem.ints W s28 ([] ++ LB ++ [x])) (N7 : ∀ k, In s28 k → w.heap.size ≤ k) : wpAny Try.prog .any ops Q 6 #[true, true, true, true, true, true, true, true, true, true, true, true, true, true, true, true, true, false, false, false, false, false, false] (fr m x k1 vA vA s19 (.slice (some ⟨g0, 0, none⟩) 0 0) vB s25 (.slice (some ⟨g1, 0, none⟩) 1 1) s28 undef undef undef undef) W := by
  obtain ⟨aA, cA, rfl, -, -⟩ := VA.slice'
  obtain ⟨aB, cB, rfl, -, -⟩ := V7.slice'
  obtain ⟨nA, hnA⟩ : ∃ n, LA.length = n := ⟨_, rfl⟩
  obtain ⟨nB, hnB⟩ : ∃ n, ([] ++ LB ++ [x]).length = n := ⟨_, rfl⟩
  rw [hnA] at VA NA ⊢
  rw [hnB] at V7 N7 ⊢
  have FI := hF W aA aB nA cA nB cB (.slice (some ⟨g0, 0, none⟩) 0 0) s25 (.slice (some ⟨g1, 0, none⟩) 1 1) BW VA V7 NA N7
  obtain ⟨d0, d1, z0, z1, -⟩ := C.doc W BW
  obtain ⟨ty17, ps17, af17, h17⟩ := sh.o17
  obtain ⟨ty18, ps18, af18, h18⟩ := sh.o18
  obtain ⟨ty19, ps19, af19, h19⟩ := sh.o19
  obtain ⟨ty20, ps20, af20, h20⟩ := sh.o20
  obtain ⟨ty21, ps21, af21, h21⟩ := sh.o21
  obtain ⟨ty22, ps22, af22, h22⟩ := sh.o22
  clear hnA hnB VA V7 NA N7 BW hF C
  refine wpAny_ready sh.r_5_7_8_12_13_15_16 (by simp) (AllReady.cons h17 (fun K hK => ?_) AllReady.nil)
  refine step_run (v := .pointer (some ⟨m, 0, none⟩)) (w' := W) rfl (by unfold fr; go_simp) (hK _ _ ?_)
  rw [put29]
  refine wpAny_ready sh.q17 (by simp) (AllReady.cons h18 (fun K hK => ?_) AllReady.nil)
  refine step_run (v := .pointer (some ⟨m, 0, none⟩)) (w' := W) rfl (by unfold fr; go_simp) (hK _ _ ?_)
  rw [put30]
  refine wpAny_ready sh.q18 (by simp) (AllReady.cons h19 (fun K hK => ?_) AllReady.nil)
  refine step_skip (w' := W.setCell ⟨m, 0, none⟩ (.slice aA nA cA)) rfl (by unfold fr; go_simp) (hK _ _ ?_)
  rw [putN]
  refine wpAny_ready sh.q19 (by simp) (AllReady.cons h20 (fun K hK => ?_) AllReady.nil)
  refine step_run (v := .pointer (some ⟨m, 0, none⟩)) (w' := W.setCell ⟨m, 0, none⟩ (.slice aA nA cA)) rfl (by unfold fr; go_simp) (hK _ _ ?_)
  rw [put31]
  refine wpAny_ready sh.q20 (by simp) (AllReady.cons h21 (fun K hK => ?_) AllReady.nil)
  refine step_run (v := .pointer (some ⟨m, 1, none⟩)) (w' := W.setCell ⟨m, 0, none⟩ (.slice aA nA cA)) rfl (by unfold fr; go_simp) (hK _ _ ?_)
  rw [put32]
  refine wpAny_ready sh.q21 (by simp) (AllReady.cons h22 (fun K hK => ?_) AllReady.nil)
  refine step_skip (w' := (W.setCell ⟨m, 0, none⟩ (.slice aA nA cA)).setCell ⟨m, 1, none⟩ (.slice aB nB cB)) rfl (by unfold fr; go_simp) (hK _ _ ?_)
  rw [putN]
  exact wpAny_done sh.q22 FI 0

set_option maxHeartbeats 2000000 in
theorem st_5_7_8_12_13_15 (sh : Shape ops) (C : Ctx w m x vA vB LA LB) (hF : Fin w m x k1 vA vB LA LB Q) {W : World} {s19 : Value} {g0 : Nat} {g1 : Nat} {s25 : Value} (BW : Below w.heap.size w W) (VA : Vec Elem.ints W s19 LA) (NA : ∀ k, In s19 k → w.heap.size ≤ k) (E1 : W.cell? ⟨g1, 0, none⟩ = some (.int .i64 x)) (V6 : Vec Elem.ints W s25 ([] ++ LB)) (N6 : ∀ k, In s25 k → w.heap.size ≤ k) (D6 : ∀ k, In s19 k → ¬ In s25 k) : wpAny Try.prog .any ops Q 7 #[true, true, true, true, true, true, true, true, true, true, true, true, true, true, true, true, false, false, false, false, false, false, false] (fr m x k1 vA vA s19 (.slice (some ⟨g0, 0, none⟩) 0 0) vB s25 (.slice (some ⟨g1, 0, none⟩) 1 1) undef undef undef undef undef) W := by
  refine wpAny_ready sh.r_5_7_8_12_13_15 (by simp) ?_
  obtain ⟨ty, ps, af, ho⟩ := sh.o16
  refine AllReady.cons ho (fun K hK => ?_) ?_
  · obtain ⟨i0, hi, hz0, hz1, hz2⟩ := info_parts infoInt
    obtain rfl : ty = 23 := sh.t16 _ ho
    refine step_append_vec (E := Elem.ints) rfl (.tmp 25) (.tmp 27) 23 rfl 3 i0 (.int .i64 0) 8 Try.underlying23 hi hz0 hz1 hz2 rfl s25 (.slice (some ⟨g1, 0, none⟩) 1 1) ([] ++ LB) [x] rfl rfl V6 (seq_one11 _ _ E1) (by have := C.len; simp only [maxLen, List.nil_append, List.length_cons, List.length_nil]; omega) (by have := C.len; simp only [List.nil_append, List.length_cons, List.length_nil]; omega) ?_
    intro v7 w7 hv7 hu7 hin7
    refine hK _ _ ?_
    rw [put28]
    exact st_5_7_8_12_13_15_16 (sh) (C) (hF) (Below.trans BW (hu7.below (fun k hk => N6 k hk) BW.size)) (VA.upd hu7 D6) (NA) (hv7) (fun k hk => (hin7 k hk).elim (fun z => N6 k z) (fun z => Nat.le_trans BW.size z))
  exact AllReady.nil

set_option maxHeartbeats 2000000 in
theorem st_5_7_8_12_13 (sh : Shape ops) (C : Ctx w m x vA vB LA LB) (hF : Fin w m x k1 vA vB LA LB Q) {W : World} {s19 : Value} {g0 : Nat} {s25 : Value} (BW : Below w.heap.size w W) (VA : Vec Elem.ints W s19 LA) (NA : ∀ k, In s19 k → w.heap.size ≤ k) (V6 : Vec Elem.ints W s25 ([] ++ LB)) (N6 : ∀ k, In s25 k → w.heap.size ≤ k) (D6 : ∀ k, In s19 k → ¬ In s25 k) : wpAny Try.prog .any ops Q 8 #[true, true, true, true, true, true, true, true, true, true, true, true, true, true, true, false, false, false, false, false, false, false, false] (fr m x k1 vA vA s19 (.slice (some ⟨g0, 0, none⟩) 0 0) vB s25 undef undef undef undef undef undef) W := by
  refine wpAny_ready sh.r_5_7_8_12_13 (by simp) ?_
  obtain ⟨ty, ps, af, ho⟩ := sh.o15
  refine AllReady.cons ho (fun K hK => ?_) ?_
  · refine step_run (v := .slice (some ⟨W.heap.size, 0, none⟩) 1 1) (w' := W.alloc (.cells #[.int .i64 x] 3)) rfl (by unfold fr; go_simp) ?_
    refine hK _ _ ?_
    rw [put27]
    exact st_5_7_8_12_13_15 (sh) (C) (hF) (BW.alloc BW.size _) (VA.alloc _) (NA) ((Blk.new W 3 #[.int .i64 x]).cell 0) (V6.alloc _) (N6) (D6)
  exact AllReady.nil

set_option maxHeartbeats 2000000 in
theorem st_5_7_8_12_15 (sh : Shape ops) (C : Ctx w m x vA vB LA LB) (hF : Fin w m x k1 vA vB LA LB Q) {W : World} {s19 : Value} {g0 : Nat} {g1 : Nat} (BW : Below w.heap.size w W) (VA : Vec Elem.ints W s19 LA) (NA : ∀ k, In s19 k → w.heap.size ≤ k) (G0 : w.heap.size ≤ g0 ∧ g0 < W.heap.size) (DG : ∀ k, In s19 k → k ≠ g0) (E1 : W.cell? ⟨g1, 0, none⟩ = some (.int .i64 x)) (NE : g1 ≠ g0) : wpAny Try.prog .any ops Q 8 #[true, true, true, true, true, true, true, true, true, true, true, true, true, false, true, true, false, false, false, false, false, false, false] (fr m x k1 vA vA s19 (.slice (some ⟨g0, 0, none⟩) 0 0) vB undef (.slice (some ⟨g1, 0, none⟩) 1 1) undef undef undef undef undef) W := by
  refine wpAny_ready sh.r_5_7_8_12_15 (by simp) ?_
  obtain ⟨ty, ps, af, ho⟩ := sh.o13
  refine AllReady.cons ho (fun K hK => ?_) ?_
  · obtain ⟨i0, hi, hz0, hz1, hz2⟩ := info_parts infoInt
    obtain ⟨a1, n1, c1, eb⟩ := C.sB
    have DD : ∀ k, In s19 k → ¬ In (.slice (some ⟨g0, 0, none⟩) 0 0) k := fun k hk h0 => DG k hk (by have h1 := in_blk h0; omega)
    obtain rfl : ty = 23 := sh.t13 _ ho
    refine step_append_vec (E := Elem.ints) rfl (.tmp 20) (.tmp 24) 23 rfl 3 i0 (.int .i64 0) 8 Try.underlying23 hi hz0 hz1 hz2 rfl (.slice (some ⟨g0, 0, none⟩) 0 0) vB [] LB rfl rfl (vec_empty11 _ _ G0.2) (C.doc W BW).2.2.2.2.1 (by have := C.len; simp only [maxLen, List.length_nil]; omega) (by have := C.len; simp only [List.length_nil]; omega) ?_
    intro v6 w6 hv6 hu6 hin6
    refine hK _ _ ?_
    rw [put25]
    exact st_5_7_8_12_13_15 (sh) (C) (hF) (Below.trans BW (hu6.below (fun k hk => by have h1 := in_blk hk; have := G0.1; omega) BW.size)) (VA.upd hu6 DD) (NA) (cell_keep11 hu6 (fun hh => by have h1 := in_blk hh; exact NE (by omega)) E1) (hv6) (fun k hk => (hin6 k hk).elim (fun z => by have h1 := in_blk z; have := G0.1; omega) (fun z => Nat.le_trans BW.size z)) (fun k hk h6 => (hin6 k h6).elim (fun z => DD k hk z) (fun z => by have := VA.lt hk; omega))
  exact AllReady.nil

set_option maxHeartbeats 2000000 in
theorem st_5_7_8_12 (sh : Shape ops) (C : Ctx w m x vA vB LA LB) (hF : Fin w m x k1 vA vB LA LB Q) {W : World} {s19 : Value} {g0 : Nat} (BW : Below w.heap.size w W) (VA : Vec Elem.ints W s19 LA) (NA : ∀ k, In s19 k → w.heap.size ≤ k) (G0 : w.heap.size ≤ g0 ∧ g0 < W.heap.size) (DG : ∀ k, In s19 k → k ≠ g0) : wpAny Try.prog .any ops Q 9 #[true, true, true, true, true, true, true, true, true, true, true, true, true, false, true, false, false, false, false, false, false, false, false] (fr m x k1 vA vA s19 (.slice (some ⟨g0, 0, none⟩) 0 0) vB undef undef undef undef undef undef undef) W := by
  refine wpAny_ready sh.r_5_7_8_12 (by simp) ?_
  obtain ⟨ty, ps, af, ho⟩ := sh.o13
  refine AllReady.cons ho (fun K hK => ?_) ?_
  · obtain ⟨i0, hi, hz0, hz1, hz2⟩ := info_parts infoInt
    obtain ⟨a1, n1, c1, eb⟩ := C.sB
    have DD : ∀ k, In s19 k → ¬ In (.slice (some ⟨g0, 0, none⟩) 0 0) k := fun k hk h0 => DG k hk (by have h1 := in_blk h0; omega)
    obtain rfl : ty = 23 := sh.t13 _ ho
    refine step_append_vec (E := Elem.ints) rfl (.tmp 20) (.tmp 24) 23 rfl 3 i0 (.int .i64 0) 8 Try.underlying23 hi hz0 hz1 hz2 rfl (.slice (some ⟨g0, 0, none⟩) 0 0) vB [] LB rfl rfl (vec_empty11 _ _ G0.2) (C.doc W BW).2.2.2.2.1 (by have := C.len; simp only [maxLen, List.length_nil]; omega) (by have := C.len; simp only [List.length_nil]; omega) ?_
    intro v6 w6 hv6 hu6 hin6
    refine hK _ _ ?_
    rw [put25]
    exact st_5_7_8_12_13 (sh) (C) (hF) (Below.trans BW (hu6.below (fun k hk => by have h1 := in_blk hk; have := G0.1; omega) BW.size)) (VA.upd hu6 DD) (NA) (hv6) (fun k hk => (hin6 k hk).elim (fun z => by have h1 := in_blk z; have := G0.1; omega) (fun z => Nat.le_trans BW.size z)) (fun k hk h6 => (hin6 k h6).elim (fun z => DD k hk z) (fun z => by have := VA.lt hk; omega))
  obtain ⟨ty, ps, af, ho⟩ := sh.o15
  refine AllReady.cons ho (fun K hK => ?_) ?_
  · refine step_run (v := .slice (some ⟨W.heap.size, 0, none⟩) 1 1) (w' := W.alloc (.cells #[.int .i64 x] 3)) rfl (by unfold fr; go_simp) ?_
    refine hK _ _ ?_
    rw [put27]
    exact st_5_7_8_12_15 (sh) (C) (hF) (BW.alloc BW.size _) (VA.alloc _) (NA) (⟨G0.1, by rw [World.size_alloc]; have := G0.2; omega⟩) (DG) ((Blk.new W 3 #[.int .i64 x]).cell 0) (fun e => by have := G0.2; omega)
  exact AllReady.nil

set_option maxHeartbeats 2000000 in
theorem st_5_7_8_15 (sh : Shape ops) (C : Ctx w m x vA vB LA LB) (hF : Fin w m x k1 vA vB LA LB Q) {W : World} {s19 : Value} {g0 : Nat} {g1 : Nat} (BW : Below w.heap.size w W) (VA : Vec Elem.ints W s19 LA) (NA : ∀ k, In s19 k → w.heap.size ≤ k) (G0 : w.heap.size ≤ g0 ∧ g0 < W.heap.size) (DG : ∀ k, In s19 k → k ≠ g0) (E1 : W.cell? ⟨g1, 0, none⟩ = some (.int .i64 x)) (NE : g1 ≠ g0) : wpAny Try.prog .any ops Q 9 #[true, true, true, true, true, true, true, true, true, true, true, true, false, false, true, true, false, false, false, false, false, false, false] (fr m x k1 vA vA s19 (.slice (some ⟨g0, 0, none⟩) 0 0) undef undef (.slice (some ⟨g1, 0, none⟩) 1 1) undef undef undef undef undef) W := by
  refine wpAny_ready sh.r_5_7_8_15 (by simp) ?_
  obtain ⟨ty, ps, af, ho⟩ := sh.o12
  refine AllReady.cons ho (fun K hK => ?_) ?_
  · obtain ⟨d0, d1, -⟩ := C.doc W BW
    refine step_run (v := vB) (w' := W) rfl (by unfold fr; go_simp) ?_
    refine hK _ _ ?_
    rw [put24]
    exact st_5_7_8_12_15 (sh) (C) (hF) (BW) (VA) (NA) (G0) (DG) (E1) (NE)
  exact AllReady.nil

set_option maxHeartbeats 2000000 in
theorem st_5_7_12_15 (sh : Shape ops) (C : Ctx w m x vA vB LA LB) (hF : Fin w m x k1 vA vB LA LB Q) {W : World} {s19 : Value} {g1 : Nat} (BW : Below w.heap.size w W) (VA : Vec Elem.ints W s19 LA) (NA : ∀ k, In s19 k → w.heap.size ≤ k) (E1 : W.cell? ⟨g1, 0, none⟩ = some (.int .i64 x)) : wpAny Try.prog .any ops Q 9 #[true, true, true, true, true, true, true, true, false, true, true, true, true, false, true, true, false, false, false, false, false, false, false] (fr m x k1 vA vA s19 undef vB undef (.slice (some ⟨g1, 0, none⟩) 1 1) undef undef undef undef undef) W := by
  refine wpAny_ready sh.r_5_7_12_15 (by simp) ?_
  obtain ⟨ty, ps, af, ho⟩ := sh.o8
  refine AllReady.cons ho (fun K hK => ?_) ?_
  · refine step_run (v := .slice (some ⟨W.heap.size, 0, none⟩) 0 0) (w' := W.alloc (.cells #[] 3)) rfl (by unfold fr; go_simp) ?_
    refine hK _ _ ?_
    rw [put20]
    exact st_5_7_8_12_15 (sh) (C) (hF) (BW.alloc BW.size _) (VA.alloc _) (NA) (⟨BW.size, by rw [World.size_alloc]; omega⟩) (fun k hk e => by have := VA.lt hk; omega) (cell_keep11 ((Upd.refl (fun _ => False) W).alloc _) id E1) (fun e => by have := World.block_lt_of_cell? W _ E1; simp only at this; omega)
  exact AllReady.nil

set_option maxHeartbeats 2000000 in
theorem st_5_8_12_15 (sh : Shape ops) (C : Ctx w m x vA vB LA LB) (hF : Fin w m x k1 vA vB LA LB Q) {W : World} {g0 : Nat} {g1 : Nat} (BW : Below w.heap.size w W) (G0 : w.heap.size ≤ g0 ∧ g0 < W.heap.size) (E1 : W.cell? ⟨g1, 0, none⟩ = some (.int .i64 x)) (NE : g1 ≠ g0) : wpAny Try.prog .any ops Q 9 #[true, true, true, true, true, true, true, false, true, true, true, true, true, false, true, true, false, false, false, false, false, false, false] (fr m x k1 vA vA undef (.slice (some ⟨g0, 0, none⟩) 0 0) vB undef (.slice (some ⟨g1, 0, none⟩) 1 1) undef undef undef undef undef) W := by
  refine wpAny_ready sh.r_5_8_12_15 (by simp) ?_
  obtain ⟨ty, ps, af, ho⟩ := sh.o7
  refine AllReady.cons ho (fun K hK => ?_) ?_
  · obtain ⟨a1, n1, c1, ea⟩ := C.sA
    refine step_call rfl 27 #[vA, .int .i64 x] (by unfold fr; go_simp) (C.doc W BW).2.2.2.2.2 ?_
    rintro e w5 ⟨v5, rfl, hv5, hn5, hb5⟩
    refine ⟨v5, rfl, hK _ _ ?_⟩
    rw [put19]
    exact st_5_7_8_12_15 (sh) (C) (hF) (below_then BW BW.size hb5) (hv5) (fun k hk => Nat.le_trans BW.size (hn5 k hk)) (⟨G0.1, Nat.lt_of_lt_of_le G0.2 hb5.size⟩) (fun k hk e => by have := hn5 k hk; have := G0.2; omega) (cell_keep11 (updFalse_of hb5) id E1) (NE)
  exact AllReady.nil

set_option maxHeartbeats 2000000 in
theorem st_5_7_8 (sh : Shape ops) (C : Ctx w m x vA vB LA LB) (hF : Fin w m x k1 vA vB LA LB Q) {W : World} {s19 : Value} {g0 : Nat} (BW : Below w.heap.size w W) (VA : Vec Elem.ints W s19 LA) (NA : ∀ k, In s19 k → w.heap.size ≤ k) (G0 : w.heap.size ≤ g0 ∧ g0 < W.heap.size) (DG : ∀ k, In s19 k → k ≠ g0) : wpAny Try.prog .any ops Q 10 #[true, true, true, true, true, true, true, true, true, true, true, true, false, false, true, false, false, false, false, false, false, false, false] (fr m x k1 vA vA s19 (.slice (some ⟨g0, 0, none⟩) 0 0) undef undef undef undef undef undef undef undef) W := by
  refine wpAny_ready sh.r_5_7_8 (by simp) ?_
  obtain ⟨ty, ps, af, ho⟩ := sh.o12
  refine AllReady.cons ho (fun K hK => ?_) ?_
  · obtain ⟨d0, d1, -⟩ := C.doc W BW
    refine step_run (v := vB) (w' := W) rfl (by unfold fr; go_simp) ?_
    refine hK _ _ ?_
    rw [put24]
    exact st_5_7_8_12 (sh) (C) (hF) (BW) (VA) (NA) (G0) (DG)
  obtain ⟨ty, ps, af, ho⟩ := sh.o15
  refine AllReady.cons ho (fun K hK => ?_) ?_
  · refine step_run (v := .slice (some ⟨W.heap.size, 0, none⟩) 1 1) (w' := W.alloc (.cells #[.int .i64 x] 3)) rfl (by unfold fr; go_simp) ?_
    refine hK _ _ ?_
    rw [put27]
    exact st_5_7_8_15 (sh) (C) (hF) (BW.alloc BW.size _) (VA.alloc _) (NA) (⟨G0.1, by rw [World.size_alloc]; have := G0.2; omega⟩) (DG) ((Blk.new W 3 #[.int .i64 x]).cell 0) (fun e => by have := G0.2; omega)
  exact AllReady.nil

set_option maxHeartbeats 2000000 in
theorem st_5_7_12 (sh : Shape ops) (C : Ctx w m x vA vB LA LB) (hF : Fin w m x k1 vA vB LA LB Q) {W : World} {s19 : Value} (BW : Below w.heap.size w W) (VA : Vec Elem.ints W s19 LA) (NA : ∀ k, In s19 k → w.heap.size ≤ k) : wpAny Try.prog .any ops Q 10 #[true, true, true, true, true, true, true, true, false, true, true, true, true, false, true, false, false, false, false, false, false, false, false] (fr m x k1 vA vA s19 undef vB undef undef undef undef undef undef undef) W := by
  refine wpAny_ready sh.r_5_7_12 (by simp) ?_
  obtain ⟨ty, ps, af, ho⟩ := sh.o8
  refine AllReady.cons ho (fun K hK => ?_) ?_
  · refine step_run (v := .slice (some ⟨W.heap.size, 0, none⟩) 0 0) (w' := W.alloc (.cells #[] 3)) rfl (by unfold fr; go_simp) ?_
    refine hK _ _ ?_
    rw [put20]
    exact st_5_7_8_12 (sh) (C) (hF) (BW.alloc BW.size _) (VA.alloc _) (NA) (⟨BW.size, by rw [World.size_alloc]; omega⟩) (fun k hk e => by have := VA.lt hk; omega)
  obtain ⟨ty, ps, af, ho⟩ := sh.o15
  refine AllReady.cons ho (fun K hK => ?_) ?_
  · refine step_run (v := .slice (some ⟨W.heap.size, 0, none⟩) 1 1) (w' := W.alloc (.cells #[.int .i64 x] 3)) rfl (by unfold fr; go_simp) ?_
    refine hK _ _ ?_
    rw [put27]
    exact st_5_7_12_15 (sh) (C) (hF) (BW.alloc BW.size _) (VA.alloc _) (NA) ((Blk.new W 3 #[.int .i64 x]).cell 0)
  exact AllReady.nil

set_option maxHeartbeats 2000000 in
theorem st_5_7_15 (sh : Shape ops) (C : Ctx w m x vA vB LA LB) (hF : Fin w m x k1 vA vB LA LB Q) {W : World} {s19 : Value} {g1 : Nat} (BW : Below w.heap.size w W) (VA : Vec Elem.ints W s19 LA) (NA : ∀ k, In s19 k → w.heap.size ≤ k) (E1 : W.cell? ⟨g1, 0, none⟩ = some (.int .i64 x)) : wpAny Try.prog .any ops Q 10 #[true, true, true, true, true, true, true, true, false, true, true, true, false, false, true, true, false, false, false, false, false, false, false] (fr m x k1 vA vA s19 undef undef undef (.slice (some ⟨g1, 0, none⟩) 1 1) undef undef undef undef undef) W := by
  refine wpAny_ready sh.r_5_7_15 (by simp) ?_
  obtain ⟨ty, ps, af, ho⟩ := sh.o8
  refine AllReady.cons ho (fun K hK => ?_) ?_
  · refine step_run (v := .slice (some ⟨W.heap.size, 0, none⟩) 0 0) (w' := W.alloc (.cells #[] 3)) rfl (by unfold fr; go_simp) ?_
    refine hK _ _ ?_
    rw [put20]
    exact st_5_7_8_15 (sh) (C) (hF) (BW.alloc BW.size _) (VA.alloc _) (NA) (⟨BW.size, by rw [World.size_alloc]; omega⟩) (fun k hk e => by have := VA.lt hk; omega) (cell_keep11 ((Upd.refl (fun _ => False) W).alloc _) id E1) (fun e => by have := World.block_lt_of_cell? W _ E1; simp only at this; omega)
  obtain ⟨ty, ps, af, ho⟩ := sh.o12
  refine AllReady.cons ho (fun K hK => ?_) ?_
  · obtain ⟨d0, d1, -⟩ := C.doc W BW
    refine step_run (v := vB) (w' := W) rfl (by unfold fr; go_simp) ?_
    refine hK _ _ ?_
    rw [put24]
    exact st_5_7_12_15 (sh) (C) (hF) (BW) (VA) (NA) (E1)
  exact AllReady.nil

set_option maxHeartbeats 2000000 in
theorem st_5_8_12 (sh : Shape ops) (C : Ctx w m x vA vB LA LB) (hF : Fin w m x k1 vA vB LA LB Q) {W : World} {g0 : Nat} (BW : Below w.heap.size w W) (G0 : w.heap.size ≤ g0 ∧ g0 < W.heap.size) : wpAny Try.prog .any ops Q 10 #[true, true, true, true, true, true, true, false, true, true, true, true, true, false, true, false, false, false, false, false, false, false, false] (fr m x k1 vA vA undef (.slice (some ⟨g0, 0, none⟩) 0 0) vB undef undef undef undef undef undef undef) W := by
  refine wpAny_ready sh.r_5_8_12 (by simp) ?_
  obtain ⟨ty, ps, af, ho⟩ := sh.o7
  refine AllReady.cons ho (fun K hK => ?_) ?_
  · obtain ⟨a1, n1, c1, ea⟩ := C.sA
    refine step_call rfl 27 #[vA, .int .i64 x] (by unfold fr; go_simp) (C.doc W BW).2.2.2.2.2 ?_
    rintro e w5 ⟨v5, rfl, hv5, hn5, hb5⟩
    refine ⟨v5, rfl, hK _ _ ?_⟩
    rw [put19]
    exact st_5_7_8_12 (sh) (C) (hF) (below_then BW BW.size hb5) (hv5) (fun k hk => Nat.le_trans BW.size (hn5 k hk)) (⟨G0.1, Nat.lt_of_lt_of_le G0.2 hb5.size⟩) (fun k hk e => by have := hn5 k hk; have := G0.2; omega)
  obtain ⟨ty, ps, af, ho⟩ := sh.o15
  refine AllReady.cons ho (fun K hK => ?_) ?_
  · refine step_run (v := .slice (some ⟨W.heap.size, 0, none⟩) 1 1) (w' := W.alloc (.cells #[.int .i64 x] 3)) rfl (by unfold fr; go_simp) ?_
    refine hK _ _ ?_
    rw [put27]
    exact st_5_8_12_15 (sh) (C) (hF) (BW.alloc BW.size _) (⟨G0.1, by rw [World.size_alloc]; have := G0.2; omega⟩) ((Blk.new W 3 #[.int .i64 x]).cell 0) (fun e => by have := G0.2; omega)
  exact AllReady.nil

set_option maxHeartbeats 2000000 in
theorem st_5_8_15 (sh : Shape ops) (C : Ctx w m x vA vB LA LB) (hF : Fin w m x k1 vA vB LA LB Q) {W : World} {g0 : Nat} {g1 : Nat} (BW : Below w.heap.size w W) (G0 : w.heap.size ≤ g0 ∧ g0 < W.heap.size) (E1 : W.cell? ⟨g1, 0, none⟩ = some (.int .i64 x)) (NE : g1 ≠ g0) : wpAny Try.prog .any ops Q 10 #[true, true, true, true, true, true, true, false, true, true, true, true, false, false, true, true, false, false, false, false, false, false, false] (fr m x k1 vA vA undef (.slice (some ⟨g0, 0, none⟩) 0 0) undef undef (.slice (some ⟨g1, 0, none⟩) 1 1) undef undef undef undef undef) W := by
  refine wpAny_ready sh.r_5_8_15 (by simp) ?_
  obtain ⟨ty, ps, af, ho⟩ := sh.o7
  refine AllReady.cons ho (fun K hK => ?_) ?_
  · obtain ⟨a1, n1, c1, ea⟩ := C.sA
    refine step_call rfl 27 #[vA, .int .i64 x] (by unfold fr; go_simp) (C.doc W BW).2.2.2.2.2 ?_
    rintro e w5 ⟨v5, rfl, hv5, hn5, hb5⟩
    refine ⟨v5, rfl, hK _ _ ?_⟩
    rw [put19]
    exact st_5_7_8_15 (sh) (C) (hF) (below_then BW BW.size hb5) (hv5) (fun k hk => Nat.le_trans BW.size (hn5 k hk)) (⟨G0.1, Nat.lt_of_lt_of_le G0.2 hb5.size⟩) (fun k hk e => by have := hn5 k hk; have := G0.2; omega) (cell_keep11 (updFalse_of hb5) id E1) (NE)
  obtain ⟨ty, ps, af, ho⟩ := sh.o12
  refine AllReady.cons ho (fun K hK => ?_) ?_
  · obtain ⟨d0, d1, -⟩ := C.doc W BW
    refine step_run (v := vB) (w' := W) rfl (by unfold fr; go_simp) ?_
    refine hK _ _ ?_
    rw [put24]
    exact st_5_8_12_15 (sh) (C) (hF) (BW) (G0) (E1) (NE)
  exact AllReady.nil

set_option maxHeartbeats 2000000 in
theorem st_5_12_15 (sh : Shape ops) (C : Ctx w m x vA vB LA LB) (hF : Fin w m x k1 vA vB LA LB Q) {W : World} {g1 : Nat} (BW : Below w.heap.size w W) (E1 : W.cell? ⟨g1, 0, none⟩ = some (.int .i64 x)) : wpAny Try.prog .any ops Q 10 #[true, true, true, true, true, true, true, false, false, true, true, true, true, false, true, true, false, false, false, false, false, false, false] (fr m x k1 vA vA undef undef vB undef (.slice (some ⟨g1, 0, none⟩) 1 1) undef undef undef undef undef) W := by
  refine wpAny_ready sh.r_5_12_15 (by simp) ?_
  obtain ⟨ty, ps, af, ho⟩ := sh.o7
  refine AllReady.cons ho (fun K hK => ?_) ?_
  · obtain ⟨a1, n1, c1, ea⟩ := C.sA
    refine step_call rfl 27 #[vA, .int .i64 x] (by unfold fr; go_simp) (C.doc W BW).2.2.2.2.2 ?_
    rintro e w5 ⟨v5, rfl, hv5, hn5, hb5⟩
    refine ⟨v5, rfl, hK _ _ ?_⟩
    rw [put19]
    exact st_5_7_12_15 (sh) (C) (hF) (below_then BW BW.size hb5) (hv5) (fun k hk => Nat.le_trans BW.size (hn5 k hk)) (cell_keep11 (updFalse_of hb5) id E1)
  obtain ⟨ty, ps, af, ho⟩ := sh.o8
  refine AllReady.cons ho (fun K hK => ?_) ?_
  · refine step_run (v := .slice (some ⟨W.heap.size, 0, none⟩) 0 0) (w' := W.alloc (.cells #[] 3)) rfl (by unfold fr; go_simp) ?_
    refine hK _ _ ?_
    rw [put20]
    exact st_5_8_12_15 (sh) (C) (hF) (BW.alloc BW.size _) (⟨BW.size, by rw [World.size_alloc]; omega⟩) (cell_keep11 ((Upd.refl (fun _ => False) W).alloc _) id E1) (fun e => by have := World.block_lt_of_cell? W _ E1; simp only at this; omega)
  exact AllReady.nil

set_option maxHeartbeats 2000000 in
theorem st_8_12_15 (sh : Shape ops) (C : Ctx w m x vA vB LA LB) (hF : Fin w m x k1 vA vB LA LB Q) {W : World} {g0 : Nat} {g1 : Nat} (BW : Below w.heap.size w W) (G0 : w.heap.size ≤ g0 ∧ g0 < W.heap.size) (E1 : W.cell? ⟨g1, 0, none⟩ = some (.int .i64 x)) (NE : g1 ≠ g0) : wpAny Try.prog .any ops Q 10 #[true, true, true, true, true, false, true, false, true, true, true, true, true, false, true, true, false, false, false, false, false, false, false] (fr m x k1 vA undef undef (.slice (some ⟨g0, 0, none⟩) 0 0) vB undef (.slice (some ⟨g1, 0, none⟩) 1 1) undef undef undef undef undef) W := by
  refine wpAny_ready sh.r_8_12_15 (by simp) ?_
  obtain ⟨ty, ps, af, ho⟩ := sh.o5
  refine AllReady.cons ho (fun K hK => ?_) ?_
  · obtain ⟨d0, d1, -⟩ := C.doc W BW
    refine step_run (v := vA) (w' := W) rfl (by unfold fr; go_simp) ?_
    refine hK _ _ ?_
    rw [put17]
    exact st_5_8_12_15 (sh) (C) (hF) (BW) (G0) (E1) (NE)
  exact AllReady.nil

set_option maxHeartbeats 2000000 in
theorem st_5_7 (sh : Shape ops) (C : Ctx w m x vA vB LA LB) (hF : Fin w m x k1 vA vB LA LB Q) {W : World} {s19 : Value} (BW : Below w.heap.size w W) (VA : Vec Elem.ints W s19 LA) (NA : ∀ k, In s19 k → w.heap.size ≤ k) : wpAny Try.prog .any ops Q 11 #[true, true, true, true, true, true, true, true, false, true, true, true, false, false, true, false, false, false, false, false, false, false, false] (fr m x k1 vA vA s19 undef undef undef undef undef undef undef undef undef) W := by
  refine wpAny_ready sh.r_5_7 (by simp) ?_
  obtain ⟨ty, ps, af, ho⟩ := sh.o8
  refine AllReady.cons ho (fun K hK => ?_) ?_
  · refine step_run (v := .slice (some ⟨W.heap.size, 0, none⟩) 0 0) (w' := W.alloc (.cells #[] 3)) rfl (by unfold fr; go_simp) ?_
    refine hK _ _ ?_
    rw [put20]
    exact st_5_7_8 (sh) (C) (hF) (BW.alloc BW.size _) (VA.alloc _) (NA) (⟨BW.size, by rw [World.size_alloc]; omega⟩) (fun k hk e => by have := VA.lt hk; omega)
  obtain ⟨ty, ps, af, ho⟩ := sh.o12
  refine AllReady.cons ho (fun K hK => ?_) ?_
  · obtain ⟨d0, d1, -⟩ := C.doc W BW
    refine step_run (v := vB) (w' := W) rfl (by unfold fr; go_simp) ?_
    refine hK _ _ ?_
    rw [put24]
    exact st_5_7_12 (sh) (C) (hF) (BW) (VA) (NA)
  obtain ⟨ty, ps, af, ho⟩ := sh.o15
  refine AllReady.cons ho (fun K hK => ?_) ?_
  · refine step_run (v := .slice (some ⟨W.heap.size, 0, none⟩) 1 1) (w' := W.alloc (.cells #[.int .i64 x] 3)) rfl (by unfold fr; go_simp) ?_
    refine hK _ _ ?_
    rw [put27]
    exact st_5_7_15 (sh) (C) (hF) (BW.alloc BW.size _) (VA.alloc _) (NA) ((Blk.new W 3 #[.int .i64 x]).cell 0)
  exact AllReady.nil

set_option maxHeartbeats 2000000 in
theorem st_5_8 (sh : Shape ops) (C : Ctx w m x vA vB LA LB) (hF : Fin w m x k1 vA vB LA LB Q) {W : World} {g0 : Nat} (BW : Below w.heap.size w W) (G0 : w.heap.size ≤ g0 ∧ g0 < W.heap.size) : wpAny Try.prog .any ops Q 11 #[true, true, true, true, true, true, true, false, true, true, true, true, false, false, true, false, false, false, false, false, false, false, false] (fr m x k1 vA vA undef (.slice (some ⟨g0, 0, none⟩) 0 0) undef undef undef undef undef undef undef undef) W := by
  refine wpAny_ready sh.r_5_8 (by simp) ?_
  obtain ⟨ty, ps, af, ho⟩ := sh.o7
  refine AllReady.cons ho (fun K hK => ?_) ?_
  · obtain ⟨a1, n1, c1, ea⟩ := C.sA
    refine step_call rfl 27 #[vA, .int .i64 x] (by unfold fr; go_simp) (C.doc W BW).2.2.2.2.2 ?_
    rintro e w5 ⟨v5, rfl, hv5, hn5, hb5⟩
    refine ⟨v5, rfl, hK _ _ ?_⟩
    rw [put19]
    exact st_5_7_8 (sh) (C) (hF) (below_then BW BW.size hb5) (hv5) (fun k hk => Nat.le_trans BW.size (hn5 k hk)) (⟨G0.1, Nat.lt_of_lt_of_le G0.2 hb5.size⟩) (fun k hk e => by have := hn5 k hk; have := G0.2; omega)
  obtain ⟨ty, ps, af, ho⟩ := sh.o12
  refine AllReady.cons ho (fun K hK => ?_) ?_
  · obtain ⟨d0, d1, -⟩ := C.doc W BW
    refine step_run (v := vB) (w' := W) rfl (by unfold fr; go_simp) ?_
    refine hK _ _ ?_
    rw [put24]
    exact st_5_8_12 (sh) (C) (hF) (BW) (G0)
  obtain ⟨ty, ps, af, ho⟩ := sh.o15
  refine AllReady.cons ho (fun K hK => ?_) ?_
  · refine step_run (v := .slice (some ⟨W.heap.size, 0, none⟩) 1 1) (w' := W.alloc (.cells #[.int .i64 x] 3)) rfl (by unfold fr; go_simp) ?_
    refine hK _ _ ?_
    rw [put27]
    exact st_5_8_15 (sh) (C) (hF) (BW.alloc BW.size _) (⟨G0.1, by rw [World.size_alloc]; have := G0.2; omega⟩) ((Blk.new W 3 #[.int .i64 x]).cell 0) (fun e => by have := G0.2; omega)
  exact AllReady.nil

set_option maxHeartbeats 2000000 in
theorem st_5_12 (sh : Shape ops) (C : Ctx w m x vA vB LA LB) (hF : Fin w m x k1 vA vB LA LB Q) {W : World} (BW : Below w.heap.size w W) : wpAny Try.prog .any ops Q 11 #[true, true, true, true, true, true, true, false, false, true, true, true, true, false, true, false, false, false, false, false, false, false, false] (fr m x k1 vA vA undef undef vB undef undef undef undef undef undef undef) W := by
  refine wpAny_ready sh.r_5_12 (by simp) ?_
  obtain ⟨ty, ps, af, ho⟩ := sh.o7
  refine AllReady.cons ho (fun K hK => ?_) ?_
  · obtain ⟨a1, n1, c1, ea⟩ := C.sA
    refine step_call rfl 27 #[vA, .int .i64 x] (by unfold fr; go_simp) (C.doc W BW).2.2.2.2.2 ?_
    rintro e w5 ⟨v5, rfl, hv5, hn5, hb5⟩
    refine ⟨v5, rfl, hK _ _ ?_⟩
    rw [put19]
    exact st_5_7_12 (sh) (C) (hF) (below_then BW BW.size hb5) (hv5) (fun k hk => Nat.le_trans BW.size (hn5 k hk))
  obtain ⟨ty, ps, af, ho⟩ := sh.o8
  refine AllReady.cons ho (fun K hK => ?_) ?_
  · refine step_run (v := .slice (some ⟨W.heap.size, 0, none⟩) 0 0) (w' := W.alloc (.cells #[] 3)) rfl (by unfold fr; go_simp) ?_
    refine hK _ _ ?_
    rw [put20]
    exact st_5_8_12 (sh) (C) (hF) (BW.alloc BW.size _) (⟨BW.size, by rw [World.size_alloc]; omega⟩)
  obtain ⟨ty, ps, af, ho⟩ := sh.o15
  refine AllReady.cons ho (fun K hK => ?_) ?_
  · refine step_run (v := .slice (some ⟨W.heap.size, 0, none⟩) 1 1) (w' := W.alloc (.cells #[.int .i64 x] 3)) rfl (by unfold fr; go_simp) ?_
    refine hK _ _ ?_
    rw [put27]
    exact st_5_12_15 (sh) (C) (hF) (BW.alloc BW.size _) ((Blk.new W 3 #[.int .i64 x]).cell 0)
  exact AllReady.nil

set_option maxHeartbeats 2000000 in
theorem st_5_15 (sh : Shape ops) (C : Ctx w m x vA vB LA LB) (hF : Fin w m x k1 vA vB LA LB Q) {W : World} {g1 : Nat} (BW : Below w.heap.size w W) (E1 : W.cell? ⟨g1, 0, none⟩ = some (.int .i64 x)) : wpAny Try.prog .any ops Q 11 #[true, true, true, true, true, true, true, false, false, true, true, true, false, false, true, true, false, false, false, false, false, false, false] (fr m x k1 vA vA undef undef undef undef (.slice (some ⟨g1, 0, none⟩) 1 1) undef undef undef undef undef) W := by
  refine wpAny_ready sh.r_5_15 (by simp) ?_
  obtain ⟨ty, ps, af, ho⟩ := sh.o7
  refine AllReady.cons ho (fun K hK => ?_) ?_
  · obtain ⟨a1, n1, c1, ea⟩ := C.sA
    refine step_call rfl 27 #[vA, .int .i64 x] (by unfold fr; go_simp) (C.doc W BW).2.2.2.2.2 ?_
    rintro e w5 ⟨v5, rfl, hv5, hn5, hb5⟩
    refine ⟨v5, rfl, hK _ _ ?_⟩
    rw [put19]
    exact st_5_7_15 (sh) (C) (hF) (below_then BW BW.size hb5) (hv5) (fun k hk => Nat.le_trans BW.size (hn5 k hk)) (cell_keep11 (updFalse_of hb5) id E1)
  obtain ⟨ty, ps, af, ho⟩ := sh.o8
  refine AllReady.cons ho (fun K hK => ?_) ?_
  · refine step_run (v := .slice (some ⟨W.heap.size, 0, none⟩) 0 0) (w' := W.alloc (.cells #[] 3)) rfl (by unfold fr; go_simp) ?_
    refine hK _ _ ?_
    rw [put20]
    exact st_5_8_15 (sh) (C) (hF) (BW.alloc BW.size _) (⟨BW.size, by rw [World.size_alloc]; omega⟩) (cell_keep11 ((Upd.refl (fun _ => False) W).alloc _) id E1) (fun e => by have := World.block_lt_of_cell? W _ E1; simp only at this; omega)
  obtain ⟨ty, ps, af, ho⟩ := sh.o12
  refine AllReady.cons ho (fun K hK => ?_) ?_
  · obtain ⟨d0, d1, -⟩ := C.doc W BW
    refine step_run (v := vB) (w' := W) rfl (by unfold fr; go_simp) ?_
    refine hK _ _ ?_
    rw [put24]
    exact st_5_12_15 (sh) (C) (hF) (BW) (E1)
  exact AllReady.nil

set_option maxHeartbeats 2000000 in
theorem st_8_12 (sh : Shape ops) (C : Ctx w m x vA vB LA LB) (hF : Fin w m x k1 vA vB LA LB Q) {W : World} {g0 : Nat} (BW : Below w.heap.size w W) (G0 : w.heap.size ≤ g0 ∧ g0 < W.heap.size) : wpAny Try.prog .any ops Q 11 #[true, true, true, true, true, false, true, false, true, true, true, true, true, false, true, false, false, false, false, false, false, false, false] (fr m x k1 vA undef undef (.slice (some ⟨g0, 0, none⟩) 0 0) vB undef undef undef undef undef undef undef) W := by
  refine wpAny_ready sh.r_8_12 (by simp) ?_
  obtain ⟨ty, ps, af, ho⟩ := sh.o5
  refine AllReady.cons ho (fun K hK => ?_) ?_
  · obtain ⟨d0, d1, -⟩ := C.doc W BW
    refine step_run (v := vA) (w' := W) rfl (by unfold fr; go_simp) ?_
    refine hK _ _ ?_
    rw [put17]
    exact st_5_8_12 (sh) (C) (hF) (BW) (G0)
  obtain ⟨ty, ps, af, ho⟩ := sh.o15
  refine AllReady.cons ho (fun K hK => ?_) ?_
  · refine step_run (v := .slice (some ⟨W.heap.size, 0, none⟩) 1 1) (w' := W.alloc (.cells #[.int .i64 x] 3)) rfl (by unfold fr; go_simp) ?_
    refine hK _ _ ?_
    rw [put27]
    exact st_8_12_15 (sh) (C) (hF) (BW.alloc BW.size _) (⟨G0.1, by rw [World.size_alloc]; have := G0.2; omega⟩) ((Blk.new W 3 #[.int .i64 x]).cell 0) (fun e => by have := G0.2; omega)
  exact AllReady.nil

set_option maxHeartbeats 2000000 in
theorem st_8_15 (sh : Shape ops) (C : Ctx w m x vA vB LA LB) (hF : Fin w m x k1 vA vB LA LB Q) {W : World} {g0 : Nat} {g1 : Nat} (BW : Below w.heap.size w W) (G0 : w.heap.size ≤ g0 ∧ g0 < W.heap.size) (E1 : W.cell? ⟨g1, 0, none⟩ = some (.int .i64 x)) (NE : g1 ≠ g0) : wpAny Try.prog .any ops Q 11 #[true, true, true, true, true, false, true, false, true, true, true, true, false, false, true, true, false, false, false, false, false, false, false] (fr m x k1 vA undef undef (.slice (some ⟨g0, 0, none⟩) 0 0) undef undef (.slice (some ⟨g1, 0, none⟩) 1 1) undef undef undef undef undef) W := by
  refine wpAny_ready sh.r_8_15 (by simp) ?_
  obtain ⟨ty, ps, af, ho⟩ := sh.o5
  refine AllReady.cons ho (fun K hK => ?_) ?_
  · obtain ⟨d0, d1, -⟩ := C.doc W BW
    refine step_run (v := vA) (w' := W) rfl (by unfold fr; go_simp) ?_
    refine hK _ _ ?_
    rw [put17]
    exact st_5_8_15 (sh) (C) (hF) (BW) (G0) (E1) (NE)
  obtain ⟨ty, ps, af, ho⟩ := sh.o12
  refine AllReady.cons ho (fun K hK => ?_) ?_
  · obtain ⟨d0, d1, -⟩ := C.doc W BW
    refine step_run (v := vB) (w' := W) rfl (by unfold fr; go_simp) ?_
    refine hK _ _ ?_
    rw [put24]
    exact st_8_12_15 (sh) (C) (hF) (BW) (G0) (E1) (NE)
  exact AllReady.nil

set_option maxHeartbeats 2000000 in
theorem st_12_15 (sh : Shape ops) (C : Ctx w m x vA vB LA LB) (hF : Fin w m x k1 vA vB LA LB Q) {W : World} {g1 : Nat} (BW : Below w.heap.size w W) (E1 : W.cell? ⟨g1, 0, none⟩ = some (.int .i64 x)) : wpAny Try.prog .any ops Q 11 #[true, true, true, true, true, false, true, false, false, true, true, true, true, false, true, true, false, false, false, false, false, false, false] (fr m x k1 vA undef undef undef vB undef (.slice (some ⟨g1, 0, none⟩) 1 1) undef undef undef undef undef) W := by
  refine wpAny_ready sh.r_12_15 (by simp) ?_
  obtain ⟨ty, ps, af, ho⟩ := sh.o5
  refine AllReady.cons ho (fun K hK => ?_) ?_
  · obtain ⟨d0, d1, -⟩ := C.doc W BW
    refine step_run (v := vA) (w' := W) rfl (by unfold fr; go_simp) ?_
    refine hK _ _ ?_
    rw [put17]
    exact st_5_12_15 (sh) (C) (hF) (BW) (E1)
  obtain ⟨ty, ps, af, ho⟩ := sh.o8
  refine AllReady.cons ho (fun K hK => ?_) ?_
  · refine step_run (v := .slice (some ⟨W.heap.size, 0, none⟩) 0 0) (w' := W.alloc (.cells #[] 3)) rfl (by unfold fr; go_simp) ?_
    refine hK _ _ ?_
    rw [put20]
    exact st_8_12_15 (sh) (C) (hF) (BW.alloc BW.size _) (⟨BW.size, by rw [World.size_alloc]; omega⟩) (cell_keep11 ((Upd.refl (fun _ => False) W).alloc _) id E1) (fun e => by have := World.block_lt_of_cell? W _ E1; simp only at this; omega)
  exact AllReady.nil

set_option maxHeartbeats 2000000 in
theorem st_5 (sh : Shape ops) (C : Ctx w m x vA vB LA LB) (hF : Fin w m x k1 vA vB LA LB Q) {W : World} (BW : Below w.heap.size w W) : wpAny Try.prog .any ops Q 12 #[true, true, true, true, true, true, true, false, false, true, true, true, false, false, true, false, false, false, false, false, false, false, false] (fr m x k1 vA vA undef undef undef undef undef undef undef undef undef undef) W := by
  refine wpAny_ready sh.r_5 (by simp) ?_
  obtain ⟨ty, ps, af, ho⟩ := sh.o7
  refine AllReady.cons ho (fun K hK => ?_) ?_
  · obtain ⟨a1, n1, c1, ea⟩ := C.sA
    refine step_call rfl 27 #[vA, .int .i64 x] (by unfold fr; go_simp) (C.doc W BW).2.2.2.2.2 ?_
    rintro e w5 ⟨v5, rfl, hv5, hn5, hb5⟩
    refine ⟨v5, rfl, hK _ _ ?_⟩
    rw [put19]
    exact st_5_7 (sh) (C) (hF) (below_then BW BW.size hb5) (hv5) (fun k hk => Nat.le_trans BW.size (hn5 k hk))
  obtain ⟨ty, ps, af, ho⟩ := sh.o8
  refine AllReady.cons ho (fun K hK => ?_) ?_
  · refine step_run (v := .slice (some ⟨W.heap.size, 0, none⟩) 0 0) (w' := W.alloc (.cells #[] 3)) rfl (by unfold fr; go_simp) ?_
    refine hK _ _ ?_
    rw [put20]
    exact st_5_8 (sh) (C) (hF) (BW.alloc BW.size _) (⟨BW.size, by rw [World.size_alloc]; omega⟩)
  obtain ⟨ty, ps, af, ho⟩ := sh.o12
  refine AllReady.cons ho (fun K hK => ?_) ?_
  · obtain ⟨d0, d1, -⟩ := C.doc W BW
    refine step_run (v := vB) (w' := W) rfl (by unfold fr; go_simp) ?_
    refine hK _ _ ?_
    rw [put24]
    exact st_5_12 (sh) (C) (hF) (BW)
  obtain ⟨ty, ps, af, ho⟩ := sh.o15
  refine AllReady.cons ho (fun K hK => ?_) ?_
  · refine step_run (v := .slice (some ⟨W.heap.size, 0, none⟩) 1 1) (w' := W.alloc (.cells #[.int .i64 x] 3)) rfl (by unfold fr; go_simp) ?_
    refine hK _ _ ?_
    rw [put27]
    exact st_5_15 (sh) (C) (hF) (BW.alloc BW.size _) ((Blk.new W 3 #[.int .i64 x]).cell 0)
  exact AllReady.nil

set_option maxHeartbeats 2000000 in
theorem st_8 (sh : Shape ops) (C : Ctx w m x vA vB LA LB) (hF : Fin w m x k1 vA vB LA LB Q) {W : World} {g0 : Nat} (BW : Below w.heap.size w W) (G0 : w.heap.size ≤ g0 ∧ g0 < W.heap.size) : wpAny Try.prog .any ops Q 12 #[true, true, true, true, true, false, true, false, true, true, true, true, false, false, true, false, false, false, false, false, false, false, false] (fr m x k1 vA undef undef (.slice (some ⟨g0, 0, none⟩) 0 0) undef undef undef undef undef undef undef undef) W := by
  refine wpAny_ready sh.r_8 (by simp) ?_
  obtain ⟨ty, ps, af, ho⟩ := sh.o5
  refine AllReady.cons ho (fun K hK => ?_) ?_
  · obtain ⟨d0, d1, -⟩ := C.doc W BW
    refine step_run (v := vA) (w' := W) rfl (by unfold fr; go_simp) ?_
    refine hK _ _ ?_
    rw [put17]
    exact st_5_8 (sh) (C) (hF) (BW) (G0)
  obtain ⟨ty, ps, af, ho⟩ := sh.o12
  refine AllReady.cons ho (fun K hK => ?_) ?_
  · obtain ⟨d0, d1, -⟩ := C.doc W BW
    refine step_run (v := vB) (w' := W) rfl (by unfold fr; go_simp) ?_
    refine hK _ _ ?_
    rw [put24]
    exact st_8_12 (sh) (C) (hF) (BW) (G0)
  obtain ⟨ty, ps, af, ho⟩ := sh.o15
  refine AllReady.cons ho (fun K hK => ?_) ?_
  · refine step_run (v := .slice (some ⟨W.heap.size, 0, none⟩) 1 1) (w' := W.alloc (.cells #[.int .i64 x] 3)) rfl (by unfold fr; go_simp) ?_
    refine hK _ _ ?_
    rw [put27]
    exact st_8_15 (sh) (C) (hF) (BW.alloc BW.size _) (⟨G0.1, by rw [World.size_alloc]; have := G0.2; omega⟩) ((Blk.new W 3 #[.int .i64 x]).cell 0) (fun e => by have := G0.2; omega)
  exact AllReady.nil

set_option maxHeartbeats 2000000 in
theorem st_12 (sh : Shape ops) (C : Ctx w m x vA vB LA LB) (hF : Fin w m x k1 vA vB LA LB Q) {W : World} (BW : Below w.heap.size w W) : wpAny Try.prog .any ops Q 12 #[true, true, true, true, true, false, true, false, false, true, true, true, true, false, true, false, false, false, false, false, false, false, false] (fr m x k1 vA undef undef undef vB undef undef undef undef undef undef undef) W := by
  refine wpAny_ready sh.r_12 (by simp) ?_
  obtain ⟨ty, ps, af, ho⟩ := sh.o5
  refine AllReady.cons ho (fun K hK => ?_) ?_
  · obtain ⟨d0, d1, -⟩ := C.doc W BW
    refine step_run (v := vA) (w' := W) rfl (by unfold fr; go_simp) ?_
    refine hK _ _ ?_
    rw [put17]
    exact st_5_12 (sh) (C) (hF) (BW)
  obtain ⟨ty, ps, af, ho⟩ := sh.o8
  refine AllReady.cons ho (fun K hK => ?_) ?_
  · refine step_run (v := .slice (some ⟨W.heap.size, 0, none⟩) 0 0) (w' := W.alloc (.cells #[] 3)) rfl (by unfold fr; go_simp) ?_
    refine hK _ _ ?_
    rw [put20]
    exact st_8_12 (sh) (C) (hF) (BW.alloc BW.size _) (⟨BW.size, by rw [World.size_alloc]; omega⟩)
  obtain ⟨ty, ps, af, ho⟩ := sh.o15
  refine AllReady.cons ho (fun K hK => ?_) ?_
  · refine step_run (v := .slice (some ⟨W.heap.size, 0, none⟩) 1 1) (w' := W.alloc (.cells #[.int .i64 x] 3)) rfl (by unfold fr; go_simp) ?_
    refine hK _ _ ?_
    rw [put27]
    exact st_12_15 (sh) (C) (hF) (BW.alloc BW.size _) ((Blk.new W 3 #[.int .i64 x]).cell 0)
  exact AllReady.nil

set_option maxHeartbeats 2000000 in
theorem st_15 (sh : Shape ops) (C : Ctx w m x vA vB LA LB) (hF : Fin w m x k1 vA vB LA LB Q) {W : World} {g1 : Nat} (BW : Below w.heap.size w W) (E1 : W.cell? ⟨g1, 0, none⟩ = some (.int .i64 x)) : wpAny Try.prog .any ops Q 12 #[true, true, true, true, true, false, true, false, false, true, true, true, false, false, true, true, false, false, false, false, false, false, false] (fr m x k1 vA undef undef undef undef undef (.slice (some ⟨g1, 0, none⟩) 1 1) undef undef undef undef undef) W := by
  refine wpAny_ready sh.r_15 (by simp) ?_
  obtain ⟨ty, ps, af, ho⟩ := sh.o5
  refine AllReady.cons ho (fun K hK => ?_) ?_
  · obtain ⟨d0, d1, -⟩ := C.doc W BW
    refine step_run (v := vA) (w' := W) rfl (by unfold fr; go_simp) ?_
    refine hK _ _ ?_
    rw [put17]
    exact st_5_15 (sh) (C) (hF) (BW) (E1)
  obtain ⟨ty, ps, af, ho⟩ := sh.o8
  refine AllReady.cons ho (fun K hK => ?_) ?_
  · refine step_run (v := .slice (some ⟨W.heap.size, 0, none⟩) 0 0) (w' := W.alloc (.cells #[] 3)) rfl (by unfold fr; go_simp) ?_
    refine hK _ _ ?_
    rw [put20]
    exact st_8_15 (sh) (C) (hF) (BW.alloc BW.size _) (⟨BW.size, by rw [World.size_alloc]; omega⟩) (cell_keep11 ((Upd.refl (fun _ => False) W).alloc _) id E1) (fun e => by have := World.block_lt_of_cell? W _ E1; simp only at this; omega)
  obtain ⟨ty, ps, af, ho⟩ := sh.o12
  refine AllReady.cons ho (fun K hK => ?_) ?_
  · obtain ⟨d0, d1, -⟩ := C.doc W BW
    refine step_run (v := vB) (w' := W) rfl (by unfold fr; go_simp) ?_
    refine hK _ _ ?_
    rw [put24]
    exact st_12_15 (sh) (C) (hF) (BW) (E1)
  exact AllReady.nil

set_option maxHeartbeats 2000000 in
theorem st (sh : Shape ops) (C : Ctx w m x vA vB LA LB) (hF : Fin w m x k1 vA vB LA LB Q) {W : World} (BW : Below w.heap.size w W) : wpAny Try.prog .any ops Q 13 #[true, true, true, true, true, false, true, false, false, true, true, true, false, false, true, false, false, false, false, false, false, false, false] (fr m x k1 vA undef undef undef undef undef undef undef undef undef undef undef) W := by
  refine wpAny_ready sh.r (by simp) ?_
  obtain ⟨ty, ps, af, ho⟩ := sh.o5
  refine AllReady.cons ho (fun K hK => ?_) ?_
  · obtain ⟨d0, d1, -⟩ := C.doc W BW
    refine step_run (v := vA) (w' := W) rfl (by unfold fr; go_simp) ?_
    refine hK _ _ ?_
    rw [put17]
    exact st_5 (sh) (C) (hF) (BW)
  obtain ⟨ty, ps, af, ho⟩ := sh.o8
  refine AllReady.cons ho (fun K hK => ?_) ?_
  · refine step_run (v := .slice (some ⟨W.heap.size, 0, none⟩) 0 0) (w' := W.alloc (.cells #[] 3)) rfl (by unfold fr; go_simp) ?_
    refine hK _ _ ?_
    rw [put20]
    exact st_8 (sh) (C) (hF) (BW.alloc BW.size _) (⟨BW.size, by rw [World.size_alloc]; omega⟩)
  obtain ⟨ty, ps, af, ho⟩ := sh.o12
  refine AllReady.cons ho (fun K hK => ?_) ?_
  · obtain ⟨d0, d1, -⟩ := C.doc W BW
    refine step_run (v := vB) (w' := W) rfl (by unfold fr; go_simp) ?_
    refine hK _ _ ?_
    rw [put24]
    exact st_12 (sh) (C) (hF) (BW)
  obtain ⟨ty, ps, af, ho⟩ := sh.o15
  refine AllReady.cons ho (fun K hK => ?_) ?_
  · refine step_run (v := .slice (some ⟨W.heap.size, 0, none⟩) 1 1) (w' := W.alloc (.cells #[.int .i64 x] 3)) rfl (by unfold fr; go_simp) ?_
    refine hK _ _ ?_
    rw [put27]
    exact st_15 (sh) (C) (hF) (BW.alloc BW.size _) ((Blk.new W 3 #[.int .i64 x]).cell 0)
  exact AllReady.nil

/-- The frame as the region begins: copies and addresses are taken first. -/
def frS (m : Nat) (x k1 : Int) (vA t12 t13 t14 t15 t16 t18 t21 t22 t23 t26 : Value) : Act :=
  ⟨#[.pointer (some ⟨m, 0, none⟩), .int .i64 x, undef, undef, .int .i64 0, .pointer (some ⟨m, 0, none⟩), .pointer (some ⟨m, 0, none⟩), .pointer (some ⟨m, 0, none⟩), vA, .int .i64 x, .int .i64 k1, .bool false, t12, t13, t14, t15, t16, undef, t18, undef, undef, t21, t22, t23, undef, undef, t26, undef, undef, undef, undef, undef, undef], []⟩

theorem puS12 {t12 t13 t14 t15 t16 t18 t21 t22 t23 t26 v : Value} : (frS m x k1 vA t12 t13 t14 t15 t16 t18 t21 t22 t23 t26).put (some 12) v = frS m x k1 vA v t13 t14 t15 t16 t18 t21 t22 t23 t26 := rfl
theorem puS13 {t12 t13 t14 t15 t16 t18 t21 t22 t23 t26 v : Value} : (frS m x k1 vA t12 t13 t14 t15 t16 t18 t21 t22 t23 t26).put (some 13) v = frS m x k1 vA t12 v t14 t15 t16 t18 t21 t22 t23 t26 := rfl
theorem puS14 {t12 t13 t14 t15 t16 t18 t21 t22 t23 t26 v : Value} : (frS m x k1 vA t12 t13 t14 t15 t16 t18 t21 t22 t23 t26).put (some 14) v = frS m x k1 vA t12 t13 v t15 t16 t18 t21 t22 t23 t26 := rfl
theorem puS15 {t12 t13 t14 t15 t16 t18 t21 t22 t23 t26 v : Value} : (frS m x k1 vA t12 t13 t14 t15 t16 t18 t21 t22 t23 t26).put (some 15) v = frS m x k1 vA t12 t13 t14 v t16 t18 t21 t22 t23 t26 := rfl
theorem puS16 {t12 t13 t14 t15 t16 t18 t21 t22 t23 t26 v : Value} : (frS m x k1 vA t12 t13 t14 t15 t16 t18 t21 t22 t23 t26).put (some 16) v = frS m x k1 vA t12 t13 t14 t15 v t18 t21 t22 t23 t26 := rfl
theorem puS18 {t12 t13 t14 t15 t16 t18 t21 t22 t23 t26 v : Value} : (frS m x k1 vA t12 t13 t14 t15 t16 t18 t21 t22 t23 t26).put (some 18) v = frS m x k1 vA t12 t13 t14 t15 t16 v t21 t22 t23 t26 := rfl
theorem puS21 {t12 t13 t14 t15 t16 t18 t21 t22 t23 t26 v : Value} : (frS m x k1 vA t12 t13 t14 t15 t16 t18 t21 t22 t23 t26).put (some 21) v = frS m x k1 vA t12 t13 t14 t15 t16 t18 v t22 t23 t26 := rfl
theorem puS22 {t12 t13 t14 t15 t16 t18 t21 t22 t23 t26 v : Value} : (frS m x k1 vA t12 t13 t14 t15 t16 t18 t21 t22 t23 t26).put (some 22) v = frS m x k1 vA t12 t13 t14 t15 t16 t18 t21 v t23 t26 := rfl
theorem puS23 {t12 t13 t14 t15 t16 t18 t21 t22 t23 t26 v : Value} : (frS m x k1 vA t12 t13 t14 t15 t16 t18 t21 t22 t23 t26).put (some 23) v = frS m x k1 vA t12 t13 t14 t15 t16 t18 t21 t22 v t26 := rfl
theorem puS26 {t12 t13 t14 t15 t16 t18 t21 t22 t23 t26 v : Value} : (frS m x k1 vA t12 t13 t14 t15 t16 t18 t21 t22 t23 t26).put (some 26) v = frS m x k1 vA t12 t13 t14 t15 t16 t18 t21 t22 t23 v := rfl
set_option maxHeartbeats 2000000 in
theorem start {W : World} (sh : Shape ops) (C : Ctx w m x vA vB LA LB) (hF : Fin w m x k1 vA vB LA LB Q) (hQ : ∀ c a k v w, Q (.panic c) (Act.put a (some k) v) w → Q (.panic c) a w) (BW : Below w.heap.size w W) : wpAny Try.prog .any ops Q ops.size (Array.replicate ops.size false) (frS m x k1 vA undef undef undef undef undef undef undef undef undef undef) W := by
  rw [sh.sz]
  obtain ⟨ty, ps, af, ho⟩ := sh.o0
  refine wpAny_take (v := (.pointer (some ⟨m, 0, none⟩))) ho sh.ns sh.f0 sh.c0 (fun c a w h => hQ c a _ _ w h) (Or.inl ⟨rfl, fun w => by unfold frS; go_simp⟩) ?_
  rw [puS12]
  obtain ⟨ty, ps, af, ho⟩ := sh.o1
  refine wpAny_take (v := (.pointer (some ⟨m, 0, none⟩))) ho sh.ns sh.f1 sh.c1 (fun c a w h => hQ c a _ _ w h) (Or.inl ⟨rfl, fun w => by unfold frS; go_simp⟩) ?_
  rw [puS13]
  obtain ⟨ty, ps, af, ho⟩ := sh.o2
  refine wpAny_take (v := (.pointer (some ⟨m, 0, none⟩))) ho sh.ns sh.f2 sh.c2 (fun c a w h => hQ c a _ _ w h) (Or.inl ⟨rfl, fun w => by unfold frS; go_simp⟩) ?_
  rw [puS14]
  obtain ⟨ty, ps, af, ho⟩ := sh.o3
  refine wpAny_take (v := (.pointer (some ⟨m, 0, none⟩))) ho sh.ns sh.f3 sh.c3 (fun c a w h => hQ c a _ _ w h) (Or.inl ⟨rfl, fun w => by unfold frS; go_simp⟩) ?_
  rw [puS15]
  obtain ⟨ty, ps, af, ho⟩ := sh.o4
  refine wpAny_take (v := (.pointer (some ⟨m, 0, none⟩))) ho sh.ns sh.f4 sh.c4 (fun c a w h => hQ c a _ _ w h) (Or.inl ⟨rfl, fun w => by unfold frS; go_simp⟩) ?_
  rw [puS16]
  obtain ⟨ty, ps, af, ho⟩ := sh.o6
  refine wpAny_take (v := (.int .i64 x)) ho sh.ns sh.f6 sh.c6 (fun c a w h => hQ c a _ _ w h) (Or.inl ⟨rfl, fun w => by unfold frS; go_simp⟩) ?_
  rw [puS18]
  obtain ⟨ty, ps, af, ho⟩ := sh.o9
  refine wpAny_take (v := (.pointer (some ⟨m, 0, none⟩))) ho sh.ns sh.f9 sh.c9 (fun c a w h => hQ c a _ _ w h) (Or.inl ⟨rfl, fun w => by unfold frS; go_simp⟩) ?_
  rw [puS21]
  obtain ⟨ty, ps, af, ho⟩ := sh.o10
  refine wpAny_take (v := (.pointer (some ⟨m, 0, none⟩))) ho sh.ns sh.f10 sh.c10 (fun c a w h => hQ c a _ _ w h) (Or.inl ⟨rfl, fun w => by unfold frS; go_simp⟩) ?_
  rw [puS22]
  obtain ⟨ty, ps, af, ho⟩ := sh.o11
  refine wpAny_take (v := (.pointer (some ⟨m, 1, none⟩))) ho sh.ns sh.f11 sh.c11 (fun c a w h => hQ c a _ _ w h) (Or.inl ⟨rfl, fun w => by unfold frS; go_simp⟩) ?_
  rw [puS23]
  obtain ⟨ty, ps, af, ho⟩ := sh.o14
  refine wpAny_take (v := (.int .i64 x)) ho sh.ns sh.f14 sh.c14 (fun c a w h => hQ c a _ _ w h) (Or.inl ⟨rfl, fun w => by unfold frS; go_simp⟩) ?_
  rw [puS26]
  exact st sh C hF BW
end
end Go.Proofs.Ytolccandekgmoaa.MvF
