/- An arena, and beside it a list of regions that it handed out before. min and max of two ints. -/
import Derived.Test.YtnkahcfkbpbhiaaArena5
import Derived.Laws.Small
namespace Go.Proofs.Ytnkahcfkbpbhiaa
open Go.RowKit ArenaMath
set_option linter.unusedVariables false

def Side (w0 : World) (q : Nat) (s : St) (v : Value) (l : List (Nat × Nat)) (w' : World) : Prop :=
  ∃ own, IsArena w' q own s ∧ (∀ k, own k → w0.heap.size ≤ k) ∧ Below w0.heap.size w0 w' ∧ Vec Elem.pairs w' v l ∧ ∀ k, In v k → ¬ own k
section
variable {w0 w w' : World} {q : Nat} {s s' : St} {v : Value} {l : List (Nat × Nat)}
theorem Side.lives (h : Side w0 q s v l w) : Lives w0 q s w := by obtain ⟨own, h, ho, hb, _, _⟩ := h; exact ⟨own, h, ho, hb⟩
theorem Side.vec (h : Side w0 q s v l w) : Vec Elem.pairs w v l := by obtain ⟨own, _, _, _, h, _⟩ := h; exact h
theorem Side.below (h : Side w0 q s v l w) : Below w0.heap.size w0 w := h.lives.below
theorem Side.grew (h : Side w0 q s v l w) (k : Below w.heap.size w w') : Side w0 q s v l w' := by
  obtain ⟨own, h, ho, hb, hv, hn⟩ := h
  exact ⟨own, h.grew k, ho, hb.trans (k.mono hb.size), hv.upd (updFalse_of k) (fun _ _ => id), hn⟩
theorem Side.alloc (h : Side w0 q s v l w) (o : Obj) : Side w0 q s v l (w.alloc o) := h.grew ((Below.refl _ w).alloc (Nat.le_refl _) o)
theorem Side.drew (h : Side w0 q s v l w) : Side w0 q s v l w.drew := by
  obtain ⟨own, h, ho, hb, hv, hn⟩ := h
  exact ⟨own, h.drew, ho, hb.drew, hv.drew, hn⟩
theorem Lives.listed (h : Lives w0 q s w) : Calls Try.prog 23 #[.pointer (some ⟨q, 0, none⟩)] w fun e w' => ∃ v, e = .returned v ∧ Side w0 q s v s.l w' ∧ Below w.heap.size w w' := by
  obtain ⟨own, h, ho, hb⟩ := h
  refine (regions_any h).mono ?_
  rintro e w' ⟨v, rfl, hv, hi, k⟩
  exact ⟨v, rfl, ⟨own, h.grew k, ho, hb.trans (k.mono hb.size), hv, fun b hb hown => by have := hi b hb; have := h.lt hown; omega⟩, k⟩
theorem Side.became {own : Nat → Prop} (ho : ∀ k, own k → w0.heap.size ≤ k) (hb : Below w0.heap.size w0 w) (hv : Vec Elem.pairs w v l) (hn : ∀ k, In v k → ¬ own k) (h : Became w q own s' w') : Side w0 q s' v l w' := by
  obtain ⟨⟨own', h, hi⟩, u⟩ := h
  refine ⟨own', h, fun k hk => ?_, hb.trans (u.below ho hb.size), hv.upd u hn, fun k hk hk' => ?_⟩
  · rcases hi k hk with h | h
    · exact ho k h
    · exact Nat.le_trans hb.size h
  · rcases hi k hk' with h | h
    · exact hn k hk h
    · have := hv.lt hk; omega
theorem Side.release (h : Side w0 q s v l w) (a : Int) : Calls Try.prog 12 #[.pointer (some ⟨q, 0, none⟩), .int .i64 a] w fun e w' => e = .returned (.int .i64 (release s a).1) ∧ Side w0 q (release s a).2 v l w' := by
  obtain ⟨own, h, ho, hb, hv, hn⟩ := h
  exact (release_any h a).mono fun e w' k => ⟨k.1, Side.became ho hb hv hn k.2⟩
theorem Side.reserve (h : Side w0 q s v l w) (n : Int) (hr : s.r ≤ 1000000000000) : Calls Try.prog 16 #[.pointer (some ⟨q, 0, none⟩), .int .i64 n] w fun e w' => e = .returned (.tuple #[.int .i64 (reserve s n).1, .int .i64 (reserve s n).2.1]) ∧ Side w0 q (reserve s n).2.2 v l w' := by
  obtain ⟨own, h, ho, hb, hv, hn⟩ := h
  exact (reserve_any h n hr).mono fun e w' k => ⟨k.1, Side.became ho hb hv hn k.2⟩
theorem Side.given (h : Side w0 q s v l w) : Calls Try.prog 20 #[.pointer (some ⟨q, 0, none⟩)] w fun e w' => e = .returned (.int .i64 (total s.l : Int)) ∧ Side w0 q s v l w' := by
  have hS := h
  obtain ⟨own, h, ho, hb, hv, hn⟩ := h
  exact (given_any h).mono fun e w' k => ⟨k.1, hS.grew k.2⟩
theorem Side.regions (h : Side w0 q s v l w) : Calls Try.prog 23 #[.pointer (some ⟨q, 0, none⟩)] w fun e w' => (∃ a cap, e = .returned (.slice a s.l.length cap)) ∧ Side w0 q s v l w' := by
  have hS := h
  obtain ⟨own, h, ho, hb, hv, hn⟩ := h
  refine (regions_any h).mono ?_
  rintro e w' ⟨u, rfl, hu, _, k⟩
  obtain ⟨a, cap, rfl, _, _⟩ := hu.shape
  exact ⟨⟨a, cap, rfl⟩, hS.grew k⟩
end

section
variable {P : Program}
theorem wpList_min {w : World} {ops : Array Oper} {rest : List Oper} {o : Oper} {a : Act} {Q : Exit → Act → World → Prop} (hgd : o.guard = none) (s x : Operand) (t : TypeId)
    (ho : o.op = .call { callee := .builtin .min, args := #[s, x], argTypes := #[t, t] }) (X Y Z : Int) (hs : a.eval s = .int .i64 X) (hx : a.eval x = .int .i64 Y) (hZ : (if Y < X then Y else X) = Z)
    (h : wpList P ops Q rest (a.put o.dst (.int .i64 Z)) w) : wpList P ops Q (o :: rest) a w :=
  wpList_plain hgd fun K hK => by
    subst hZ
    unfold Oper.wp execOp
    simp only [ho, resolve, invoke, builtin, Sem.run_bind, Sem.run_pure, Result.andThen_ok, List.map_toArray, List.map_cons, List.map_nil, hs, hx, run_min_int2]
    exact hK _ _ h
theorem wpList_max {w : World} {ops : Array Oper} {rest : List Oper} {o : Oper} {a : Act} {Q : Exit → Act → World → Prop} (hgd : o.guard = none) (s x : Operand) (t : TypeId)
    (ho : o.op = .call { callee := .builtin .max, args := #[s, x], argTypes := #[t, t] }) (X Y Z : Int) (hs : a.eval s = .int .i64 X) (hx : a.eval x = .int .i64 Y) (hZ : (if Y > X then Y else X) = Z)
    (h : wpList P ops Q rest (a.put o.dst (.int .i64 Z)) w) : wpList P ops Q (o :: rest) a w :=
  wpList_plain hgd fun K hK => by
    subst hZ
    unfold Oper.wp execOp
    simp only [ho, resolve, invoke, builtin, Sem.run_bind, Sem.run_pure, Result.andThen_ok, List.map_toArray, List.map_cons, List.map_nil, hs, hx, run_max_int2]
    exact hK _ _ h
end

/-! ### Does a region of k at a meet one of the first j? -/
def meetsTo (l : List (Nat × Nat)) (a k j : Nat) : Bool := (l.take j).any (fun x => decide (a < x.1 + x.2) && decide (x.1 < a + k))
theorem meetsTo_zero (l : List (Nat × Nat)) (a k : Nat) : meetsTo l a k 0 = false := by simp [meetsTo]
theorem meetsTo_step {l : List (Nat × Nat)} {a k j : Nat} {x : Nat × Nat} (h : l[j]? = some x) : meetsTo l a k (j + 1) = (meetsTo l a k j || (decide (a < x.1 + x.2) && decide (x.1 < a + k))) := by
  unfold meetsTo
  rw [List.take_add_one, h, List.any_append]
  simp
theorem meetsTo_all {l : List (Nat × Nat)} {a k : Nat} : meetsTo l a k l.length = false ↔ clear l a k := by
  unfold meetsTo clear
  rw [List.take_length, List.any_eq_false]
  constructor
  · intro h x hx hm
    exact h x hx (by simp [hm.1, hm.2])
  · intro h x hx hm
    simp only [Bool.and_eq_true, decide_eq_true_eq] at hm
    exact h x hx hm
end Go.Proofs.Ytnkahcfkbpbhiaa
