/- The laws' 'alive' of layer 8. -/
import Derived.Test.YtgfinibimdgkfaaCellCl
namespace Go.Proofs.Ytgfinibimdgkfaa
open Go.RowKit
set_option linter.unusedVariables false

set_option maxHeartbeats 1000000 in
theorem alive_any (w : World) (C : Ce w) : Calls Try.prog 8 #[] w fun e w' => e = .returned (.bool true) ∧ Below w.heap.size w w' := by
  obtain ⟨b, hb⟩ : ∃ b, w.heap.size = b := ⟨_, rfl⟩
  have O0 := Lib.hid (OC.new 26 (Below.refl w.heap.size w) hb)
  have L0 := Lib.hid (fun w' (h : OC w b 0 0 0 w') => oc_load C (by decide) w' h)
  have S1 := Lib.hid (fun w' (h : OC w b 0 0 (0 + 1) w') => oc_store C (by decide) (by decide) (y := 5) (by decide) w' h)
  have L2 := Lib.hid (fun w' (h : OC w b 5 (0 + 1) (0 + 1 + 1) w') => oc_load C (by decide) w' h)
  have C3 := Lib.hid (fun w' (h : OC w b 5 (0 + 1) (0 + 1 + 1 + 1) w') => oc_cas C (by decide) (by decide) (g := 0) (y := 9) (by decide) (by decide) w' h)
  have C4 := Lib.hid (fun w' (h : OC w b 5 (0 + 1) (0 + 1 + 1 + 1 + 1) w') => oc_cas C (by decide) (by decide) (g := 1) (y := 9) (by decide) (by decide) w' h)
  have A5 := Lib.hid (fun w' (h : OC w b 9 (0 + 1 + 1) (0 + 1 + 1 + 1 + 1 + 1) w') => oc_asked C (by decide) w' h)
  go_enter Try.func8, Try.ntmps8
  go_wp2_with fail
  refine (L0.out _ O0.out).mono ?_; rintro e w1 ⟨rfl, h⟩
  have O1 := Lib.hid h
  clear h hb
  go_wp2_with fail
  refine (S1.out _ O1.out).mono ?_; rintro e w2 ⟨rfl, h⟩
  have O2 := Lib.hid h
  clear h
  go_wp2_with fail
  refine (L2.out _ O2.out).mono ?_; rintro e w3 ⟨rfl, h⟩
  have O3 := Lib.hid h
  clear h
  go_wp2_with fail
  refine (C3.out _ O3.out).mono ?_; rintro e w4 ⟨rfl, h⟩
  have O4 := Lib.hid (show OC w b 5 (0 + 1) (0 + 1 + 1 + 1 + 1) w4 from h)
  clear h
  go_wp2_with fail
  refine (C4.out _ O4.out).mono ?_; rintro e w5 ⟨rfl, h⟩
  have O5 := Lib.hid (show OC w b 9 (0 + 1 + 1) (0 + 1 + 1 + 1 + 1 + 1) w5 from h)
  clear h
  go_wp2_with fail
  refine (A5.out _ (O5.out.grew ((Below.refl _ _).alloc (Nat.le_refl _) _)) _ _ _ _ (Or.inr rfl) (ptr_twoAt w5 _ _ _ _ rfl) (by decide) (by decide)).mono ?_; rintro e w6 ⟨rfl, h⟩
  have O6 := Lib.hid h
  clear h
  go_wp2
  go_ret
  exact ⟨rfl, O6.out.below⟩
end Go.Proofs.Ytgfinibimdgkfaa
