/- The laws' 'alive': it answers true, and makes blocks of its own alone. -/
import Derived.Test.YtfkbgejapmhppaaEnds
import Derived.Below
namespace Go.Proofs.Ytfkbgejapmhppaa
open Go.RowKit

theorem up_17 (w : World) : Calls Try.prog 13 #[.int .u64 17, .int .u64 16] w fun e w' => e = .returned (.tuple #[.int .u64 32, .int .i64 0]) ∧ w = w' := by
  have h := up_any 17 16 (by decide) (by decide) w
  rw [show CalcMath.upV 17 16 = 32 by decide +kernel, show CalcMath.upE 17 16 = 0 by decide +kernel] at h
  exact h
theorem mul_in (x : Nat) (hx : x ≤ 18446744073709551615) (b : Nat) (w : World) (h0 : w.cell? ⟨b, 0, none⟩ = some (.int .u64 (x : Int))) (h1 : w.cell? ⟨b, 1, none⟩ = some (.int .u64 2)) :
    Calls Try.prog 21 #[.slice (some ⟨b, 0, none⟩) 2 2] w fun e w' => e = .returned (.tuple #[.int .u64 (CalcMath.mulV [x, 2] : Nat), .int .i64 (CalcMath.mulE [x, 2] : Nat)]) ∧ w = w' := by
  refine mul_any w _ [x, 2] (.inl ⟨b, 0, 2, rfl, fun j hj => ?_⟩) (by simp) (CalcMath.getD_le _ (fun y hy => by simp at hy; omega))
  match j, hj with
  | 0, _ => exact h0
  | 1, _ => exact h1
theorem mul_39 (b : Nat) (w : World) (h0 : w.cell? ⟨b, 0, none⟩ = some (.int .u64 549755813888)) (h1 : w.cell? ⟨b, 1, none⟩ = some (.int .u64 2)) :
    Calls Try.prog 21 #[.slice (some ⟨b, 0, none⟩) 2 2] w fun e w' => e = .returned (.tuple #[.int .u64 1099511627776, .int .i64 0]) ∧ w = w' := by
  have h := mul_in 549755813888 (by decide) b w h0 h1
  rw [show CalcMath.mulV [549755813888, 2] = 1099511627776 by decide +kernel, show CalcMath.mulE [549755813888, 2] = 0 by decide +kernel] at h
  exact h
theorem mul_40 (b : Nat) (w : World) (h0 : w.cell? ⟨b, 0, none⟩ = some (.int .u64 1099511627776)) (h1 : w.cell? ⟨b, 1, none⟩ = some (.int .u64 2)) :
    Calls Try.prog 21 #[.slice (some ⟨b, 0, none⟩) 2 2] w fun e w' => e = .returned (.tuple #[.int .u64 0, .int .i64 3]) ∧ w = w' := by
  have h := mul_in 1099511627776 (by decide) b w h0 h1
  rw [show CalcMath.mulV [1099511627776, 2] = 0 by decide +kernel, show CalcMath.mulE [1099511627776, 2] = 3 by decide +kernel] at h
  exact h
theorem pow2_8 (w : World) : Calls Try.prog 17 #[.int .u64 8] w fun e w' => e = .returned (.bool true) ∧ w = w' := by
  have h := pow2_any 8 (by decide) (by decide) w
  rw [show CalcMath.isP2 (8 : Int).toNat = true by decide +kernel] at h
  exact h

theorem alive_any (w : World) : Calls Try.prog 12 #[] w fun e w' => e = .returned (.bool true) ∧ Below w.heap.size w w' := by
  go_enter Try.func12, Try.ntmps12
  go_wp2_with (go_at_call 13; refine (up_17 _).mono ?_; rintro e w' ⟨rfl, rfl⟩)
  refine (mul_39 _ _ (by go_simp) (by go_simp)).mono ?_; rintro e w' ⟨rfl, rfl⟩
  go_wp2_with fail
  refine (mul_40 _ _ (by go_simp) (by go_simp)).mono ?_; rintro e w' ⟨rfl, rfl⟩
  go_wp2_with (go_at_call 17; refine (pow2_8 _).mono ?_; rintro e w' ⟨rfl, rfl⟩)
  go_ret
  exact ⟨rfl, ((Below.refl _ _).alloc (Nat.le_refl _) _).alloc (by simp) _⟩

end Go.Proofs.Ytfkbgejapmhppaa
