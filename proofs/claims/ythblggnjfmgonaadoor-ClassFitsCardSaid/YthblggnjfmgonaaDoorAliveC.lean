/- The laws' 'alive' of layer 5. -/
import Derived.Test.YthblggnjfmgonaaDoorClassCl
namespace Go.Proofs.YthblggnjfmgonaaDoor
open Go.RowKit ClassMath
set_option linter.unusedVariables false

theorem alive_any (w : World) (C : Cl w) : Calls Tryd.prog 10 #[] w fun e w' => e = .returned (.bool true) ∧ Below w.heap.size w w' := by
  have e1 : forN 17 1 = (⟨1, 1, 0, 32⟩, 0) := by rfl
  have e2 : forN 17 64 = (⟨3, 1, 0, 64⟩, 0) := by rfl
  have e3 : forN 1025 1 = (⟨-1, 2, 0, 2048⟩, 0) := by rfl
  have e4 : forN 20000 1 = (⟨-1, 0, 2, 32768⟩, 0) := by rfl
  have h1 := C.for_ 17 1 (by decide) (by decide)
  have h2 := C.for_ 17 64 (by decide) (by decide)
  have h3 := C.for_ 1025 1 (by decide) (by decide)
  have h4 := C.for_ 20000 1 (by decide) (by decide)
  rw [e1] at h1
  rw [e2] at h2
  rw [e3] at h3
  rw [e4] at h4
  simp only [plV] at h1 h2 h3 h4
  have H1 := Lib.hid h1; have H2 := Lib.hid h2; have H3 := Lib.hid h3; have H4 := Lib.hid h4
  clear e1 e2 e3 e4 h1 h2 h3 h4
  go_enter Tryd.func10, Tryd.ntmps10
  go_wp2_with fail
  refine (H1.out _ (Below.refl _ _)).mono ?_; rintro e w1 ⟨rfl, hb⟩
  have B1 := Lib.hid hb
  have s1 := hb.size
  clear hb
  go_wp2_with fail
  refine (H2.out _ (by first | exact B1.out | exact B1.out.alloc s1 _)).mono ?_; rintro e w2 ⟨rfl, hb⟩
  have B2 := Lib.hid ((B1.out.alloc s1 _).trans (hb.mono (Nat.le_trans s1 (by simp))))
  have K1 := Lib.hid ((Blk.new w1 _ _).grew hb)
  have s2 := B2.out.size
  clear hb
  go_wp2_with fail
  refine (H3.out _ (by first | exact B2.out | exact B2.out.alloc s2 _)).mono ?_; rintro e w3 ⟨rfl, hb⟩
  have B3 := Lib.hid ((B2.out.alloc s2 _).trans (hb.mono (Nat.le_trans s2 (by simp))))
  have K1 := Lib.hid ((K1.out.alloc _).grew hb)
  have K2 := Lib.hid ((Blk.new w2 _ _).grew hb)
  have s3 := B3.out.size
  clear hb
  go_wp2_with fail
  refine (H4.out _ (by first | exact B3.out | exact B3.out.alloc s3 _)).mono ?_; rintro e w4 ⟨rfl, hb⟩
  have B4 := Lib.hid ((B3.out.alloc s3 _).trans (hb.mono (Nat.le_trans s3 (by simp))))
  have s4 := B4.out.size
  have K1 := (K1.out.alloc _).grew hb
  have K2 := (K2.out.alloc _).grew hb
  have K3 := (Blk.new w3 _ _).grew hb
  have a0 := (K1.alloc (.cells #[.int .i64 (-1), .int .i64 0, .int .i64 2, .int .u64 32768] 39)).cell 0
  have a3 := (K1.alloc (.cells #[.int .i64 (-1), .int .i64 0, .int .i64 2, .int .u64 32768] 39)).cell 3
  have b0 := (K2.alloc (.cells #[.int .i64 (-1), .int .i64 0, .int .i64 2, .int .u64 32768] 39)).cell 0
  have c0 := (K3.alloc (.cells #[.int .i64 (-1), .int .i64 0, .int .i64 2, .int .u64 32768] 39)).cell 0
  have c1 := (K3.alloc (.cells #[.int .i64 (-1), .int .i64 0, .int .i64 2, .int .u64 32768] 39)).cell 1
  simp only [List.getElem?_toArray, List.getElem?_cons_succ, List.getElem?_cons_zero] at a0 a3 b0 c0 c1
  clear hb K1 K2 K3
  go_wp2
  go_ret
  exact ⟨rfl, B4.out.alloc s4 _⟩
end Go.Proofs.YthblggnjfmgonaaDoor
