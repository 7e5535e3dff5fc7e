/- The laws' 'alive' of layer 6. -/
import Derived.Test.YtophomnbclgjfaaGeoCl
namespace Go.Proofs.Ytophomnbclgjfaa
open Go.RowKit GeoMath
set_option linter.unusedVariables false

theorem alive_any (w : World) (C : Ge w) : Calls Try.prog 10 #[] w fun e w' => e = .returned (.bool true) ∧ Below w.heap.size w w' := by
  have h1 := C.at_ 17500 (by decide)
  have h2 := C.index 1024 16 64 1040 (by decide) (by decide) (by decide) (by decide)
  have h3 := C.index 1024 16 64 1041 (by decide) (by decide) (by decide) (by decide)
  have h4 := C.end_ 1024 16 64 (by decide) (by decide) (by decide)
  have e1 : atN 17500 = ⟨1, 1, 92⟩ := by rfl
  have e2 : atE 17500 = 0 := by rfl
  have e3 : indexN 1024 16 64 1040 = 1 := by decide +kernel
  have e4 : indexE 1024 16 64 1040 = 0 := by decide +kernel
  have e5 : indexE 1024 16 64 1041 = 5 := by decide +kernel
  have e6 : endN 1024 16 64 = 2048 := by decide +kernel
  rw [e1, e2] at h1
  rw [e3, e4] at h2
  rw [e5] at h3
  rw [e6] at h4
  obtain ⟨z, hz⟩ : ∃ z, indexN 1024 16 64 1041 = z := ⟨_, rfl⟩
  rw [hz] at h3
  simp only [plcV, runV] at h1 h2 h3 h4
  have H1 := Lib.hid h1; have H2 := Lib.hid h2; have H3 := Lib.hid h3; have H4 := Lib.hid h4
  clear e1 e2 e3 e4 e5 e6 h1 h2 h3 h4 hz
  go_enter Try.func10, Try.ntmps10
  go_wp2_with fail
  refine (H1.out _ (Below.refl _ _)).mono ?_; rintro e w1 ⟨rfl, hb⟩
  have B1 := Lib.hid hb
  have s1 := hb.size
  clear hb
  go_wp2_with fail
  refine (H2.out _ (below_alloc2 B1.out s1 _ _)).mono ?_; rintro e w2 ⟨rfl, hb⟩
  have B2 := Lib.hid (below_then (below_alloc2 B1.out s1 _ _) (Nat.le_trans s1 (by simp; omega)) hb)
  have K1 := Lib.hid (((Blk.new w1 26 #[.int .i64 1, .int .i64 1, .int .u64 92]).alloc (.cells #[.int .u64 1024, .int .u64 16, .int .i64 64] 38)).grew hb)
  have K2 := Lib.hid ((Blk.new (w1.alloc (.cells #[.int .i64 1, .int .i64 1, .int .u64 92] 26)) 38 #[.int .u64 1024, .int .u64 16, .int .i64 64]).grew hb)
  have s2 := B2.out.size
  have hz : (w1.alloc (.cells #[.int .i64 1, .int .i64 1, .int .u64 92] 26)).heap.size = w1.heap.size + 1 := by simp
  rw [hz] at K2
  obtain ⟨bp, hbp⟩ : ∃ bp, w1.heap.size = bp := ⟨_, rfl⟩
  rw [hbp] at K1 K2
  have r0 : w2.cell? ⟨bp + 1, 0, none⟩ = some (.int .u64 1024) := K2.out.cell 0
  have r1 : w2.cell? ⟨bp + 1, 1, none⟩ = some (.int .u64 16) := K2.out.cell 1
  have r2 : w2.cell? ⟨bp + 1, 2, none⟩ = some (.int .i64 64) := K2.out.cell 2
  clear hb hz
  go_wp2_with fail
  refine (H3.out _ B2.out).mono ?_; rintro e w3 ⟨rfl, hb⟩
  have B3 := Lib.hid (below_then B2.out s2 hb)
  have s3 := B3.out.size
  have r0 : w3.cell? ⟨bp + 1, 0, none⟩ = some (.int .u64 1024) := (K2.out.grew hb).cell 0
  have r1 : w3.cell? ⟨bp + 1, 1, none⟩ = some (.int .u64 16) := (K2.out.grew hb).cell 1
  have r2 : w3.cell? ⟨bp + 1, 2, none⟩ = some (.int .i64 64) := (K2.out.grew hb).cell 2
  have p0 : w3.cell? ⟨bp, 0, none⟩ = some (.int .i64 1) := (K1.out.grew hb).cell 0
  have p1 : w3.cell? ⟨bp, 1, none⟩ = some (.int .i64 1) := (K1.out.grew hb).cell 1
  have p2 : w3.cell? ⟨bp, 2, none⟩ = some (.int .u64 92) := (K1.out.grew hb).cell 2
  clear hb
  go_wp2_with fail
  refine (H4.out _ B3.out).mono ?_; rintro e w4 ⟨rfl, hb⟩
  have B4 := Lib.hid (below_then B3.out s3 hb)
  clear hb
  go_wp2
  go_ret
  exact ⟨rfl, B4.out⟩
end Go.Proofs.Ytophomnbclgjfaa
