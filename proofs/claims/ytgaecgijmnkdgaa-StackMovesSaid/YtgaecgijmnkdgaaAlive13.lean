/- The laws' 'alive' of layer 13. -/
import Derived.Test.YtgaecgijmnkdgaaStackE
import Derived.Deep.LoopGhost
namespace Go.Proofs.Ytgaecgijmnkdgaa
open Go.RowKit StackMath
set_option linter.unusedVariables false
set_option maxRecDepth 100000

/-- The example's stack behind j pushes. -/
def exS : Nat → SS
  | 0 => s0
  | 1 => pushS s0 3
  | _ => pushS (pushS s0 3) 5
def exP : Nat → Nat
  | 0 => 3
  | _ => 5
def AlR (w : World) (s : Nat) (i : Value) (wr : World) : Prop := ∃ j : Nat, j ≤ 2 ∧ i = .int .i64 (j : Int) ∧ FS w s (exS j) [] wr
theorem exS_next {j : Nat} (hj : j < 2) : pushS (exS j) (exP j) = exS (j + 1) := by
  match j, hj with
  | 0, _ => rfl
  | 1, _ => rfl
theorem exS_n {j : Nat} (hj : j ≤ 2) : (exS j).n ≤ 4 := by
  match j, hj with
  | 0, _ => decide
  | 1, _ => decide
  | 2, _ => decide
/-- Behind both pushes: two pops that look, one of them takes. -/
def exA : SS := exS 2
def exB : SS × MV := stepE exA mPop
def exC : SS × MV := stepE exB.1 mPop
def exD : SS × MV := stepE exC.1 exB.2
def AlT (w : World) (s m n : Nat) (g : Nat) (wr : World) : Prop := ∃ k : Nat, k + g = 3 ∧ FS w s (aloneE exD.1 exC.2 k).1 [(m, exD.2), (n, (aloneE exD.1 exC.2 k).2)] wr
theorem exT {k : Nat} (hk : k < 3) : (aloneE exD.1 exC.2 k).2.over = false := by
  match k, hk with
  | 0, _ => rfl
  | 1, _ => rfl
  | 2, _ => rfl
theorem exT_n {k : Nat} (hk : k ≤ 3) : (aloneE exD.1 exC.2 k).1.n ≤ 100 := by
  match k, hk with
  | 0, _ => decide
  | 1, _ => decide
  | 2, _ => decide
  | 3, _ => decide
set_option maxHeartbeats 4000000 in
theorem alive_any (w : World) : Calls Try.prog 9 #[] w fun e w' => e = .returned (.bool true) ∧ Below w.heap.size w w' := by
  have ZS := zero_stack
  have ix0 : ∀ w, (Instr.index 63 (.agg #[.int .i64 3, .int .i64 5]) (.int .i64 0)).run Try.prog w = .ok (.int .i64 3) w := fun w => by kernel_rfl
  have ix1 : ∀ w, (Instr.index 63 (.agg #[.int .i64 3, .int .i64 5]) (.int .i64 1)).run Try.prog w = .ok (.int .i64 5) w := fun w => by kernel_rfl
  obtain ⟨W, hW, hf, hb, hs⟩ := fs_new (w := w) (Below.refl w.heap.size w)
  obtain ⟨s, hss⟩ : ∃ z, w.heap.size = z := ⟨_, rfl⟩
  have I0 := Lib.hid (show AlR w s (.int .i64 0) W from ⟨0, by decide, rfl, by rw [← hss]; exact hf⟩)
  clear hf hb hs
  go_enter Try.func9, Try.ntmps9
  go_wp2
  go_loopw [14] (fun i wr => AlR w s i wr) (fun i _ => 2 - (intOf i).toNat)
  case atStart => exact I0.out
  case round =>
    clear I0
    obtain ⟨j, hj, rfl, hf⟩ := hrel
    rcases (by omega : j = 0 ∨ j = 1 ∨ j = 2) with rfl | rfl | rfl
    · show _
      have P := Lib.hid (show Calls Try.prog 11 #[.pointer (some ⟨s, 0, none⟩), .int .i64 3] _ _ from fs_push hf (p := 3) (by decide))
      clear hf
      go_wp2_with fail
      refine P.out.mono ?_; rintro e w2 ⟨m, rfl, hf, _, _⟩
      have A0 := Lib.hid (FS.solo hf (m := m) (M := mPush 3) (by simp))
      clear hf P
      go_wp2_with fail
      refine (al_stepB A0.out (by decide) (by decide) (b := true) rfl).mono ?_; rintro e w3 ⟨rfl, hf, _⟩
      have A1 := Lib.hid hf
      clear hf
      go_wp2_with fail
      refine (al_stepB A1.out (by decide) (by decide) (b := true) rfl).mono ?_; rintro e w4 ⟨rfl, hf, _⟩
      have A2 := Lib.hid hf
      clear hf
      go_wp2_with fail
      refine (al_stepB A2.out (by decide) (by decide) (b := false) rfl).mono ?_; rintro e w5 ⟨rfl, hf, _⟩
      have A3 := Lib.hid hf
      clear hf
      go_wp2_with fail
      refine (show Calls _ _ _ _ (fun e w' => e = .returned (.bool true) ∧ w' = w5) from fs_done A3.out (i := 0) rfl).mono ?_; rintro e w6 ⟨rfl, k⟩; obtain rfl := k.symm; clear k
      go_wp2_with fail
      refine (show Calls _ _ _ _ (fun e w' => e = .returned (.int .i64 3) ∧ w' = w5) from fs_place A3.out (i := 0) rfl).mono ?_; rintro e w6 ⟨rfl, k⟩; obtain rfl := k.symm; clear k
      have HR := Lib.hid (show AlR w s (.int .i64 1) w5 from ⟨1, by decide, rfl, A3.out.forget⟩)
      go_wp2
      go_roundw
      case rel => exact HR.out
      case measure => simp [intOf]
    · show _
      have P := Lib.hid (show Calls Try.prog 11 #[.pointer (some ⟨s, 0, none⟩), .int .i64 5] _ _ from fs_push hf (p := 5) (by decide))
      clear hf
      go_wp2_with fail
      refine P.out.mono ?_; rintro e w2 ⟨m, rfl, hf, _, _⟩
      have A0 := Lib.hid (FS.solo hf (m := m) (M := mPush 5) (by simp))
      clear hf P
      go_wp2_with fail
      refine (al_stepB A0.out (by decide) (by decide) (b := true) rfl).mono ?_; rintro e w3 ⟨rfl, hf, _⟩
      have A1 := Lib.hid hf
      clear hf
      go_wp2_with fail
      refine (al_stepB A1.out (by decide) (by decide) (b := true) rfl).mono ?_; rintro e w4 ⟨rfl, hf, _⟩
      have A2 := Lib.hid hf
      clear hf
      go_wp2_with fail
      refine (al_stepB A2.out (by decide) (by decide) (b := false) rfl).mono ?_; rintro e w5 ⟨rfl, hf, _⟩
      have A3 := Lib.hid hf
      clear hf
      go_wp2_with fail
      refine (show Calls _ _ _ _ (fun e w' => e = .returned (.bool true) ∧ w' = w5) from fs_done A3.out (i := 0) rfl).mono ?_; rintro e w6 ⟨rfl, k⟩; obtain rfl := k.symm; clear k
      go_wp2_with fail
      refine (show Calls _ _ _ _ (fun e w' => e = .returned (.int .i64 5) ∧ w' = w5) from fs_place A3.out (i := 0) rfl).mono ?_; rintro e w6 ⟨rfl, k⟩; obtain rfl := k.symm; clear k
      have HR := Lib.hid (show AlR w s (.int .i64 2) w5 from ⟨2, by decide, rfl, A3.out.forget⟩)
      go_wp2
      go_roundw
      case rel => exact HR.out
      case measure => simp [intOf]
    · have P := Lib.hid (fs_pop hf)
      clear hf
      go_wp2_with fail
      refine P.out.mono ?_; rintro e w2 ⟨m, rfl, hf, _, _⟩
      have P := Lib.hid (fs_pop hf)
      clear hf
      go_wp2_with fail
      refine P.out.mono ?_; rintro e w3 ⟨n, rfl, hf, _, _⟩
      have F := Lib.hid (show FS w s exA [(m, mPop), (n, mPop)] w3 from hf)
      clear hf P
      go_wp2_with fail
      refine (fs_stepB F.out (by decide) (i := 0) (b := true) rfl rfl (S2 := exB.1) (ms2 := [(m, exB.2), (n, mPop)]) rfl rfl).mono ?_; rintro e w4 ⟨rfl, hf, _⟩
      have F := Lib.hid hf
      clear hf
      go_wp2_with fail
      refine (fs_stepB F.out (by decide) (i := 1) (b := true) rfl rfl (S2 := exC.1) (ms2 := [(m, exB.2), (n, exC.2)]) rfl rfl).mono ?_; rintro e w5 ⟨rfl, hf, _⟩
      have F := Lib.hid hf
      clear hf
      go_wp2_with fail
      refine (fs_stepB F.out (by decide) (i := 0) (b := true) rfl rfl (S2 := exD.1) (ms2 := [(m, exD.2), (n, exC.2)]) rfl rfl).mono ?_; rintro e w6 ⟨rfl, hf, _⟩
      have I2 := Lib.hid (show AlT w s m n 3 w6 from ⟨0, rfl, hf⟩)
      clear hf F
      go_wp2
      go_loopg [] 3 (fun g wr => AlT w s m n g wr)
      case atStart => exact I2.out
      case round =>
        clear I2
        obtain ⟨k, hk, hf⟩ := hrel
        by_cases hk3 : k < 3
        · have C := Lib.hid (fs_stepB hf (show _ ≤ _ from Nat.le_trans (exT_n (by omega)) (by decide)) (i := 1) (b := true) rfl (by rw [exT hk3]; rfl) (S2 := (aloneE exD.1 exC.2 (k + 1)).1) (ms2 := [(m, exD.2), (n, (aloneE exD.1 exC.2 (k + 1)).2)]) rfl rfl)
          clear hf
          go_wp2_with fail
          refine C.out.mono ?_; rintro e w7 ⟨rfl, hf, _⟩
          have NX := Lib.hid (show AlT w s m n (2 - k) w7 from ⟨k + 1, by omega, hf⟩)
          clear hf
          go_wp2
          go_roundg (2 - k)
          case measure => omega
          case rel => exact NX.out
        · obtain rfl : k = 3 := by omega
          have C := Lib.hid (fs_stepB hf (by decide) (i := 1) (b := false) rfl rfl (S2 := (aloneE exD.1 exC.2 4).1) (ms2 := [(m, exD.2), (n, (aloneE exD.1 exC.2 4).2)]) rfl rfl)
          clear hf
          go_wp2_with fail
          refine C.out.mono ?_; rintro e w7 ⟨rfl, hf, _⟩
          have F := Lib.hid hf
          clear hf
          go_wp2_with fail
          refine (newPop_nil w7).mono ?_; rintro e w8 ⟨rfl, k⟩; obtain rfl := k.symm; clear k
          go_wp2_with fail
          refine (show Calls _ _ _ _ (fun e w' => e = .returned (.int .i64 5) ∧ w' = w7) from fs_place F.out (i := 0) rfl).mono ?_; rintro e w8 ⟨rfl, k⟩; obtain rfl := k.symm; clear k
          go_wp2_with fail
          refine (show Calls _ _ _ _ (fun e w' => e = .returned (.int .i64 3) ∧ w' = w7) from fs_place F.out (i := 1) rfl).mono ?_; rintro e w8 ⟨rfl, k⟩; obtain rfl := k.symm; clear k
          go_wp2_with fail
          refine (fs_all F.out (by decide)).mono ?_; rintro e w8 ⟨a, c, rfl, _, hf, _, _⟩
          have F8 := Lib.hid hf
          clear hf
          go_wp2
          go_ret
          exact ⟨rfl, F8.out.below⟩
end Go.Proofs.Ytgaecgijmnkdgaa
