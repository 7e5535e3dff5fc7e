/- The landed stack, at whatever place of a block: what it is in memory; placeOf, wordOf, isPlace, All, Contains, Look, Cell. -/
import Derived.Test.YtgaecgijmnkdgaaCell8a
import Derived.Test.YtgaecgijmnkdgaaStackMath
import Derived.Deep.RegionHeld3
import Derived.Deep.RegionLaw
import Derived.IntWalk
namespace Go.Proofs.Ytgaecgijmnkdgaa
open Go.RowKit StackMath
set_option linter.unusedVariables false
set_option maxRecDepth 100000

/-- A stack at a place: the cell's word, tag, count; of each place who is below it. -/
def SK (w : World) (s o : Nat) (S : SS) : Prop := ∃ ty cs, Blk w s ty cs ∧ cs[o]? = some (.int .u64 (topW S.L : Nat)) ∧ cs[o + 1]? = some (.int .u64 (S.t : Nat)) ∧ cs[o + 2]? = some (.int .i64 (S.n : Nat)) ∧ ∀ x, x < 64 → cs[o + 3 + x]? = some (.int .u64 (S.B x : Nat))
/-- Its cells. -/
def SPl (s o : Nat) (c i : Nat) : Prop := c = s ∧ o ≤ i ∧ i < o + 67
theorem CPl.spl {s o c i : Nat} (h : CPl s o c i) : SPl s o c i := ⟨h.1, by rcases h.2 with e | e | e <;> omega, by rcases h.2 with e | e | e <;> omega⟩
section
variable {w w' : World} {s o : Nat} {S S' : SS}
theorem SK.lt (h : SK w s o S) : s < w.heap.size := by obtain ⟨ty, cs, k, _⟩ := h; exact k.lt
theorem SK.cc (h : SK w s o S) : CC w s o (topW S.L) S.t (S.n : Int) := by obtain ⟨ty, cs, k, e0, e1, e2, _⟩ := h; exact ⟨ty, cs, k, e0, e1, e2⟩
theorem SK.cell (h : SK w s o S) {x : Nat} (hx : x < 64) : w.cell? ⟨s, o + 3 + x, none⟩ = some (.int .u64 (S.B x : Nat)) := by obtain ⟨ty, cs, k, _, _, _, e⟩ := h; rw [k.cell]; exact e x hx
theorem SK.frozen (h : SK w s o S) (i : Nat) : w.frozen? ⟨s, i, none⟩ = false := by obtain ⟨ty, cs, k, _⟩ := h; exact k.frozen i
theorem SK.upd {T : Nat → Prop} (h : SK w s o S) (u : Upd T w w') (ht : ¬ T s) : SK w' s o S := by obtain ⟨ty, cs, k, e⟩ := h; exact ⟨ty, cs, k.upd u ht, e⟩
theorem SK.grew (h : SK w s o S) (hb : Below w.heap.size w w') : SK w' s o S := h.upd (updFalse_of hb) id
theorem SK.turn (h : SK w s o S) (c : CC w' s o (topW S'.L) S'.t (S'.n : Int)) (W : Wrt (fun _ => False) (CPl s o) w w') (hB : S'.B = S.B) : SK w' s o S' := by
  obtain ⟨ty, cs, k, e0, e1, e2, eb⟩ := h
  obtain ⟨cs', k', hz, e'⟩ := W.blk s id ty cs k
  obtain ⟨ty2, cs2, k2, f0, f1, f2⟩ := c
  have : some (Obj.cells cs' ty (0, 0)) = some (Obj.cells cs2 ty2 (0, 0)) := k'.symm.trans k2
  injection this with this
  injection this with g1 g2 g3
  subst g1 g2
  refine ⟨_, _, k', f0, f1, f2, fun x hx => ?_⟩
  rw [e' _ (fun hc => by rcases hc.2 with e | e | e <;> omega), hB]
  exact eb x hx
theorem SK.put (h : SK w s o S) {p : Nat} (hp : p < 64) (v : Nat) (V : Int) (hV : V = (v : Int)) : SK (w.setCell ⟨s, o + 3 + p, none⟩ (.int .u64 V)) s o ⟨S.L, putB S.B p v, S.t, S.n⟩ := by
  subst hV
  obtain ⟨ty, cs, k, e0, e1, e2, eb⟩ := h
  refine ⟨ty, _, k.put (o + 3 + p) _, ?_, ?_, ?_, fun x hx => ?_⟩
  · rw [Array.getElem?_setIfInBounds, if_neg (by omega)]; exact e0
  · rw [Array.getElem?_setIfInBounds, if_neg (by omega)]; exact e1
  · rw [Array.getElem?_setIfInBounds, if_neg (by omega)]; exact e2
  · by_cases hxp : x = p
    · subst hxp
      obtain ⟨l, _⟩ := Array.getElem?_eq_some_iff.1 (eb x hx)
      rw [Array.getElem?_setIfInBounds_self_of_lt l]
      show _ = some (Value.int .u64 ((putB S.B x v x : Nat) : Int))
      rw [putB_self]
    · rw [Array.getElem?_setIfInBounds, if_neg (by omega)]
      show _ = some (Value.int .u64 ((putB S.B p v x : Nat) : Int))
      rw [putB_ne hxp]; exact eb x hx
end
/-- The zero value's cells. -/
def zS67 : Array Value := #[.int .u64 0, .int .u64 0, .int .i64 0, .int .u64 0, .int .u64 0, .int .u64 0, .int .u64 0, .int .u64 0, .int .u64 0, .int .u64 0, .int .u64 0, .int .u64 0, .int .u64 0, .int .u64 0, .int .u64 0, .int .u64 0, .int .u64 0, .int .u64 0, .int .u64 0, .int .u64 0, .int .u64 0, .int .u64 0, .int .u64 0, .int .u64 0, .int .u64 0, .int .u64 0, .int .u64 0, .int .u64 0, .int .u64 0, .int .u64 0, .int .u64 0, .int .u64 0, .int .u64 0, .int .u64 0, .int .u64 0, .int .u64 0, .int .u64 0, .int .u64 0, .int .u64 0, .int .u64 0, .int .u64 0, .int .u64 0, .int .u64 0, .int .u64 0, .int .u64 0, .int .u64 0, .int .u64 0, .int .u64 0, .int .u64 0, .int .u64 0, .int .u64 0, .int .u64 0, .int .u64 0, .int .u64 0, .int .u64 0, .int .u64 0, .int .u64 0, .int .u64 0, .int .u64 0, .int .u64 0, .int .u64 0, .int .u64 0, .int .u64 0, .int .u64 0, .int .u64 0, .int .u64 0, .int .u64 0]
theorem zero_stack : ∀ w, (zeroValue 29).run Try.prog w = .ok (.agg zS67) w := fun w => by kernel_rfl
/-- A new one. -/
theorem sk_new (w : World) : ∃ W, w.alloc (.cells zS67 29) = W ∧ SK W w.heap.size 0 s0 ∧ Below w.heap.size w W ∧ W.heap.size = w.heap.size + 1 := by
  refine ⟨_, rfl, ⟨29, _, Blk.new w _ _, rfl, rfl, rfl, fun x hx => ?_⟩, (Below.refl _ w).alloc (Nat.le_refl _) _, World.size_alloc _ _⟩
  have e : zS67 = (#[Value.int .u64 0, Value.int .u64 0, Value.int .i64 0] ++ Array.replicate 64 (Value.int .u64 0)) := rfl
  refine (congrArg (fun a : Array Value => a[0 + 3 + x]?) e).trans ?_
  show (#[Value.int .u64 0, Value.int .u64 0, Value.int .i64 0] ++ Array.replicate 64 (Value.int .u64 0))[0 + 3 + x]? = _
  rw [Array.getElem?_append_right (show 3 ≤ 0 + 3 + x by omega), Array.getElem?_replicate]
  exact if_pos (show 0 + 3 + x - 3 < 64 by omega)
theorem placeOf_any (w : World) {x : Nat} (hx : x ≤ 64) : Calls Try.prog 33 #[.int .u64 (x : Int)] w fun e w' => e = .returned (.int .i64 ((x : Int) - 1)) ∧ w' = w := by
  have h0 : (0 : Int) ≤ (x : Int) := by omega
  have h1 : (x : Int) ≤ 64 := by omega
  go_enter Try.func33, Try.ntmps33
  go_wp2
  go_ret
  exact ⟨rfl, rfl⟩
theorem wordOf_any (w : World) {i : Int} (h1 : -1 ≤ i) (h2 : i ≤ 63) : Calls Try.prog 35 #[.int .i64 i] w fun e w' => e = .returned (.int .u64 ((wordI i : Nat) : Int)) ∧ w' = w := by
  rw [wordI_int h1]
  go_enter Try.func35, Try.ntmps35
  go_wp2
  go_ret
  exact ⟨rfl, rfl⟩
theorem isPlace_yes (w : World) {x : Nat} (hx : x < 64) : Calls Try.prog 25 #[.int .i64 (x : Int)] w fun e w' => e = .returned (.bool true) ∧ w' = w := by
  have t1 : decide ((0 : Int) ≤ (x : Int)) = true := decide_eq_true (by omega)
  have t2 : decide ((x : Int) < 64) = true := decide_eq_true (by omega)
  go_enter Try.func25, Try.ntmps25
  go_wp2
  go_ret
  exact ⟨rfl, rfl⟩
theorem isPlace_no (w : World) {i : Int} (hi : i < 0 ∨ 64 ≤ i) : Calls Try.prog 25 #[.int .i64 i] w fun e w' => e = .returned (.bool false) ∧ w' = w := by
  by_cases h0 : i < 0
  · have t1 : decide ((0 : Int) ≤ i) = false := decide_eq_false (by omega)
    clear hi h0
    go_enter Try.func25, Try.ntmps25
    go_wp2
    go_ret
    exact ⟨rfl, rfl⟩
  · have t1 : decide ((0 : Int) ≤ i) = true := decide_eq_true (by omega)
    have t2 : decide (i < 64) = false := decide_eq_false (by omega)
    clear hi h0
    go_enter Try.func25, Try.ntmps25
    go_wp2
    go_ret
    exact ⟨rfl, rfl⟩
theorem cellOf_any (w : World) (s o : Nat) : Calls Try.prog 20 #[.pointer (some ⟨s, o, none⟩)] w fun e w' => e = .returned (.pointer (some ⟨s, o, none⟩)) ∧ w' = w := by
  go_enter Try.func20, Try.ntmps20
  go_wp2
  go_ret
  exact ⟨rfl, rfl⟩
abbrev ManyB (S : SS) : Prop := S.n ≤ 999999999
theorem ManyB.ask {S : SS} (h : ManyB S) : AskB (S.n : Int) := ⟨by omega, by have : S.n ≤ 999999999 := h; omega⟩
/-- A row of 64 bools: which are in L. -/
def MetAt (w : World) (b : Nat) (L : List Nat) : Prop := ∃ cs, Blk w b 75 cs ∧ ∀ x, x < 64 → cs[x]? = some (.bool (decide (x ∈ L)))
theorem MetAt.lt {w : World} {b : Nat} {L : List Nat} (h : MetAt w b L) : b < w.heap.size := by obtain ⟨cs, k, _⟩ := h; exact k.lt
theorem MetAt.upd {T : Nat → Prop} {w w' : World} {b : Nat} {L : List Nat} (h : MetAt w b L) (u : Upd T w w') (ht : ¬ T b) : MetAt w' b L := by obtain ⟨cs, k, e⟩ := h; exact ⟨cs, k.upd u ht, e⟩
theorem MetAt.cell {w : World} {b : Nat} {L : List Nat} (h : MetAt w b L) {x : Nat} (hx : x < 64) {v : Bool} (hv : decide (x ∈ L) = v) : w.cell? ⟨b, x, none⟩ = some (.bool v) := by obtain ⟨cs, k, e⟩ := h; rw [k.cell, e x hx, hv]
theorem MetAt.frozen {w : World} {b : Nat} {L : List Nat} (h : MetAt w b L) (i : Nat) : w.frozen? ⟨b, i, none⟩ = false := by obtain ⟨cs, k, _⟩ := h; exact k.frozen i
theorem MetAt.put {w : World} {b : Nat} {L : List Nat} (h : MetAt w b L) {p : Nat} (hp : p < 64) {L' : List Nat} (hL : ∀ x, x ∈ L' ↔ x = p ∨ x ∈ L) : MetAt (w.setCell ⟨b, p, none⟩ (.bool true)) b L' := by
  obtain ⟨cs, k, e⟩ := h
  refine ⟨_, k.put p _, fun x hx => ?_⟩
  by_cases hxp : x = p
  · subst hxp
    obtain ⟨l, _⟩ := Array.getElem?_eq_some_iff.1 (e x hx)
    rw [Array.getElem?_setIfInBounds_self_of_lt l, decide_eq_true ((hL x).2 (.inl rfl))]
  · rw [Array.getElem?_setIfInBounds, if_neg (by omega), e x hx]
    have : decide (x ∈ L') = decide (x ∈ L) := decide_eq_decide.2 ⟨fun h => by rcases (hL x).1 h with e | e; exact absurd e hxp; exact e, fun h => (hL x).2 (.inr h)⟩
    rw [this]
theorem met_new (w : World) : ∃ W, w.alloc (.cells #[.bool false, .bool false, .bool false, .bool false, .bool false, .bool false, .bool false, .bool false, .bool false, .bool false, .bool false, .bool false, .bool false, .bool false, .bool false, .bool false, .bool false, .bool false, .bool false, .bool false, .bool false, .bool false, .bool false, .bool false, .bool false, .bool false, .bool false, .bool false, .bool false, .bool false, .bool false, .bool false, .bool false, .bool false, .bool false, .bool false, .bool false, .bool false, .bool false, .bool false, .bool false, .bool false, .bool false, .bool false, .bool false, .bool false, .bool false, .bool false, .bool false, .bool false, .bool false, .bool false, .bool false, .bool false, .bool false, .bool false, .bool false, .bool false, .bool false, .bool false, .bool false, .bool false, .bool false, .bool false] 75) = W ∧ MetAt W w.heap.size [] ∧ Below w.heap.size w W ∧ W.heap.size = w.heap.size + 1 := by
  refine ⟨_, rfl, ⟨_, Blk.new w _ _, fun x hx => ?_⟩, (Below.refl _ w).alloc (Nat.le_refl _) _, World.size_alloc _ _⟩
  have e : #[.bool false, .bool false, .bool false, .bool false, .bool false, .bool false, .bool false, .bool false, .bool false, .bool false, .bool false, .bool false, .bool false, .bool false, .bool false, .bool false, .bool false, .bool false, .bool false, .bool false, .bool false, .bool false, .bool false, .bool false, .bool false, .bool false, .bool false, .bool false, .bool false, .bool false, .bool false, .bool false, .bool false, .bool false, .bool false, .bool false, .bool false, .bool false, .bool false, .bool false, .bool false, .bool false, .bool false, .bool false, .bool false, .bool false, .bool false, .bool false, .bool false, .bool false, .bool false, .bool false, .bool false, .bool false, .bool false, .bool false, .bool false, .bool false, .bool false, .bool false, .bool false, .bool false, .bool false, .bool false] = Array.replicate 64 (Value.bool false) := rfl
  refine (congrArg (fun a : Array Value => a[x]?) e).trans ?_
  show (Array.replicate 64 (Value.bool false))[x]? = _
  rw [Array.getElem?_replicate, if_pos hx]
  rfl
theorem look_any (w : World) {s o : Nat} {S : SS} (h : SK w s o S) (g : GoodS S) (hm : ManyB S) :
    Calls Try.prog 22 #[.pointer (some ⟨s, o, none⟩)] w fun e w' => e = .returned (.tuple #[.int .i64 (topI S.L), .int .u64 (S.t : Int)]) ∧ SK w' s o ⟨S.L, S.B, S.t, S.n + 1⟩ ∧ Wrt (fun _ => False) (CPl s o) w w' := by
  have C := Lib.hid (cell_load w h.cc hm.ask)
  have hp := fun w' => placeOf_any w' (topW_le g.lt)
  rw [topI_word]
  obtain ⟨x, hx⟩ : ∃ x, topW S.L = x := ⟨_, rfl⟩
  rw [hx] at C hp ⊢
  have HX := Lib.hid hx; have H := Lib.hid h; have HP := Lib.hid hp
  obtain ⟨t, ht⟩ : ∃ t, S.t = t := ⟨_, rfl⟩
  rw [ht] at C ⊢
  have HT := Lib.hid ht
  clear h g hm hx ht hp
  go_enter Try.func22, Try.ntmps22
  go_wp2_with fail
  refine C.out.mono ?_; rintro e w1 ⟨rfl, k1, k2⟩
  have K := Lib.hid (And.intro k1 k2)
  clear k1 k2
  go_wp2_with fail
  refine (HP.out _).mono ?_; rintro e w2 ⟨rfl, rfl⟩
  go_wp2
  go_ret2
  exact ⟨rfl, H.out.turn (by rw [HX.out]; exact HT.out ▸ K.out.1) K.out.2 rfl, K.out.2⟩
end Go.Proofs.Ytgaecgijmnkdgaa
