/- Memory (layer 2): words of 8 bytes, stored wherever. -/
import Derived.Test.YtomepdgddpajoaaDoorMem2
namespace Go.Proofs.YtomepdgddpajoaaDoor
open Go.RowKit
set_option linter.unusedVariables false

theorem store_out' {w : World} {p g : Nat} {L : List Nat} (h : IsMem w p g L) (addr x : Nat) (hx' : x ≤ 18446744073709551615) (hn : L.length < addr + 8) :
    Calls Tryd.prog 90 #[.pointer (some ⟨p, 0, none⟩), .int .u64 (addr : Int), .int .i64 8, .int .u64 (x : Int)] w fun e w' => e = .returned (.int .i64 3) ∧ w = w' := by
  have HW := Lib.hid (word_out h addr 8 x (.inr (.inr (.inr rfl))) (by show x < 256 ^ 8; omega) hx' hn)
  clear h hn
  go_enter Tryd.func90, Tryd.ntmps90
  go_wp2_with (go_at_call 95; refine HW.out.mono ?_; rintro e w' ⟨rfl, rfl⟩)
  go_ret
  exact ⟨rfl, rfl⟩
theorem store8 (w : World) {p g : Nat} {L : List Nat} (h : IsMem w p g L) (a x : Nat) (ha : a ≤ 18446744073709551615) (hx : x ≤ 18446744073709551615) :
    Calls Tryd.prog 90 #[.pointer (some ⟨p, 0, none⟩), .int .u64 (a : Int), .int .i64 8, .int .u64 (x : Int)] w fun e w' => e = .returned (.int .i64 (if a + 8 ≤ L.length then 0 else 3)) ∧ IsMem w' p g (if a + 8 ≤ L.length then MemMath.put8 L a x else L) ∧ Upd (fun b => b = g) w w' := by
  by_cases h8 : a + 8 ≤ L.length
  · rw [if_pos h8, if_pos h8]
    exact store_ok h a 8 x (.inr (.inr (.inr rfl))) (by show x < 256 ^ 8; omega) hx h8
  · rw [if_neg h8, if_neg h8]
    refine (store_out' h a x hx (by omega)).mono ?_
    rintro e w' ⟨rfl, rfl⟩
    exact ⟨rfl, h, Upd.refl _ _⟩
end Go.Proofs.YtomepdgddpajoaaDoor
