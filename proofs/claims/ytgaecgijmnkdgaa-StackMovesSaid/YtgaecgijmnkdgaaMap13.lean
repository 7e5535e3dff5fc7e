/- A map of bools that has just the places of a row (for StackSteps). -/
import Derived.Test.YtgaecgijmnkdgaaBoolMap
import Derived.Test.YtgaecgijmnkdgaaStackE
namespace Go.Proofs.Ytgaecgijmnkdgaa
open Go.RowKit Go.Maps StackMath
set_option linter.unusedVariables false

theorem keyI : Keyed Try.prog 3 := int_keyed Try.underlying3
theorem zeroB13 (w : World) : (zeroValue 4).run Try.prog w = .ok (.bool false) w := by kernel_rfl
theorem ownsMap_tight {w : World} {P : Program} {k : TypeId} {R : Value → Option (DataW Unit × List MemPlace)} {b n m : Nat} {D : DataW Unit} (h : w.ownsMap P k R b n D) (hm : Maps.size D ≤ m) : w.ownsMap P k R b m D := by
  obtain ⟨es, clock, hb, F, hs, rfl⟩ := h
  refine ⟨es, clock, hb, F, ?_, rfl⟩
  simpa [Maps.size, length_sorted] using hm
theorem upd_turned {w w' : World} {b : Nat} (h : w.mapTurned w' b) : Upd (fun k => k = b) w w' := by
  obtain ⟨es, clock, es', clock', hb, rfl⟩ := h
  exact ⟨rfl, rfl, rfl, by simp [ChangeMaps.setBlock], fun k _ hk => ChangeMaps.heap_setBlock_other hb _ (fun e => hk e)⟩
structure BD (D : DataW Unit) (L : List Nat) : Prop where
  size : Maps.size D = L.length
  hs : ∀ x : Nat, has D (.int .i64 (x : Int)) = decide (x ∈ L)
  att : ∀ x : Nat, D.atKey (.int .i64 (x : Int)) (.lit (.bool false)) = .lit (.bool (decide (x ∈ L)))
def BM (w : World) (b : Nat) (L : List Nat) : Prop := ∃ D, w.ownsMap Try.prog 3 (plainElem Try.prog 4) b L.length D ∧ BD D L
theorem BM.lt {w : World} {b : Nat} {L : List Nat} (h : BM w b L) : b < w.heap.size := by obtain ⟨D, h1, _⟩ := h; exact h1.lt
theorem BM.upd {T : Nat → Prop} {w w' : World} {b : Nat} {L : List Nat} (h : BM w b L) (u : Upd T w w') (hT : ¬ T b) : BM w' b L := by obtain ⟨D, h1, h2⟩ := h; exact ⟨D, ownsMap_upd h1 u hT, h2⟩
theorem BM.grew {w w' : World} {b : Nat} {L : List Nat} (h : BM w b L) (hb : Below w.heap.size w w') : BM w' b L := h.upd (updFalse_of hb) id
theorem bd_nil : BD (.map []) [] := ⟨rfl, fun x => rfl, fun x => rfl⟩
theorem key_ne {x y : Nat} (h : x ≠ y) : (Lit.int .i64 (x : Int)) ≠ Lit.int .i64 (y : Int) := fun e => by injection e with _ e; omega
theorem BD.put {D : DataW Unit} {L : List Nat} (h : BD D L) (hD : Tidy D) {p : Nat} (hp : p ∉ L) : BD (D.put (.int .i64 (p : Int)) (.lit (.bool true))) (p :: L) := by
  refine ⟨?_, fun x => ?_, fun x => ?_⟩
  · rw [Maps.size_put hD, h.hs p, decide_eq_false hp, h.size]; rfl
  · by_cases hx : x = p
    · subst hx; rw [has_put_same hD.isMap (by trivial)]; exact (decide_eq_true (List.mem_cons_self ..)).symm
    · rw [has_put_other (key_ne hx), h.hs x]; exact decide_eq_decide.2 ⟨fun k => List.mem_cons_of_mem _ k, fun k => by rcases List.mem_cons.1 k with e | e; exact absurd e hx; exact e⟩
  · by_cases hx : x = p
    · subst hx; rw [atKey_put_same hD.isMap (by trivial), decide_eq_true (List.mem_cons_self ..)]
    · rw [atKey_put_other (key_ne hx), h.att x]
      have : decide (x ∈ L) = decide (x ∈ p :: L) := decide_eq_decide.2 ⟨fun k => List.mem_cons_of_mem _ k, fun k => by rcases List.mem_cons.1 k with e | e; exact absurd e hx; exact e⟩
      rw [this]
theorem BD.del {D : DataW Unit} {L : List Nat} {p : Nat} (h : BD D (p :: L)) (hD : Tidy D) (hp : p ∉ L) : BD (D.del (.int .i64 (p : Int))) L := by
  have same : ∀ x, x ≠ p → decide (x ∈ p :: L) = decide (x ∈ L) := fun x hx => decide_eq_decide.2 ⟨fun k => by rcases List.mem_cons.1 k with e | e; exact absurd e hx; exact e, fun k => List.mem_cons_of_mem _ k⟩
  refine ⟨?_, fun x => ?_, fun x => ?_⟩
  · have := Maps.size_del hD (k := .int .i64 (p : Int))
    rw [h.hs p, decide_eq_true (List.mem_cons_self ..), h.size, List.length_cons] at this
    simp at this; omega
  · by_cases hx : x = p
    · subst hx; rw [has_del_same, decide_eq_false hp]
    · rw [has_del_other (key_ne hx), h.hs x, same x hx]
  · by_cases hx : x = p
    · subst hx; rw [atKey_del_same, decide_eq_false hp]
    · rw [atKey_del_other (key_ne hx), h.att x, same x hx]
end Go.Proofs.Ytgaecgijmnkdgaa
