/- An act of layer 12's laws. -/
import Derived.Test.YtmjeelnidiijdaaGreatDoorElems
import Derived.Test.YtmjeelnidiijdaaGreatDoorRecs12
namespace Go.Proofs.YtmjeelnidiijdaaGreatDoor
open Go.RowKit
set_option linter.unusedVariables false
theorem i64_bd9 {n : Int} (h : (Lit.int .i64 n).wf = true) : -9223372036854775808 ≤ n ∧ n ≤ 9223372036854775807 := by
  simp [Lit.wf, IntKind.min, IntKind.max, IntKind.signed, IntKind.bits] at h; omega
theorem u64_bd9 {n : Int} (h : (Lit.int .u64 n).wf = true) : n = ((n.toNat : Nat) : Int) ∧ n.toNat ≤ 18446744073709551615 := by
  simp [Lit.wf, IntKind.min, IntKind.max, IntKind.signed, IntKind.bits] at h; omega
theorem cell_then {w w' : World} {a : Addr} {v : Value} (h : w.cell? a = some v) (hb : Below w.heap.size w w') : w'.cell? a = some v := (hb.cell (p := a) (World.block_lt_of_cell? w _ h)).trans h
theorem act12 {w : World} {a : Option Addr} {n cap len : Nat} {F : Nat → Nat → Value} (h : Recs w (.slice a n cap) [.num .i64, .num .i64, .num .i64, .num .i64, .num .u64] len F) {i : Nat} (hi : i < len) :
    ∃ b off k z sl wh, ∃ X : Nat, a = some ⟨b, off, none⟩ ∧ (∀ w', Below w.heap.size w w' → w'.cell? ⟨b, off + i * 5, none⟩ = some (.int .i64 k) ∧ w'.cell? ⟨b, off + i * 5 + 1, none⟩ = some (.int .i64 z) ∧ w'.cell? ⟨b, off + i * 5 + 2, none⟩ = some (.int .i64 sl) ∧ w'.cell? ⟨b, off + i * 5 + 3, none⟩ = some (.int .i64 wh) ∧ w'.cell? ⟨b, off + i * 5 + 4, none⟩ = some (.int .u64 (X : Int))) ∧ (-9223372036854775808 ≤ k ∧ k ≤ 9223372036854775807) ∧ (-9223372036854775808 ≤ z ∧ z ≤ 9223372036854775807) ∧ (-9223372036854775808 ≤ sl ∧ sl ≤ 9223372036854775807) ∧ (-9223372036854775808 ≤ wh ∧ wh ≤ 9223372036854775807) ∧ X ≤ 18446744073709551615 := by
  obtain ⟨b, off, rfl, hc⟩ := h.elem hi
  have c0 := hc 0 (by simp)
  have c1 := hc 1 (by simp)
  have c2 := hc 2 (by simp)
  have c3 := hc 3 (by simp)
  have c4 := hc 4 (by simp)
  have l0 := leaf_int (h.leaf hi 0 _ rfl)
  have l1 := leaf_int (h.leaf hi 1 _ rfl)
  have l2 := leaf_int (h.leaf hi 2 _ rfl)
  have l3 := leaf_int (h.leaf hi 3 _ rfl)
  have l4 := leaf_int (h.leaf hi 4 _ rfl)
  rw [l0.1] at c0
  rw [l1.1] at c1
  rw [l2.1] at c2
  rw [l3.1] at c3
  rw [l4.1, (u64_bd9 l4.2).1] at c4
  exact ⟨b, off, _, _, _, _, _, rfl, fun w' hb => ⟨cell_then c0 hb, cell_then c1 hb, cell_then c2 hb, cell_then c3 hb, cell_then c4 hb⟩, i64_bd9 l0.2, i64_bd9 l1.2, i64_bd9 l2.2, i64_bd9 l3.2, (u64_bd9 l4.2).2⟩
end Go.Proofs.YtmjeelnidiijdaaGreatDoor
