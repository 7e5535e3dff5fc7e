/- The law GeoPlaces, walked. -/
import Derived.Test.YtophomnbclgjfaaRefG1
namespace Go.Proofs.Ytophomnbclgjfaa.geoPlaces
open Go.RowKit GeoMath
set_option linter.unusedVariables false

theorem u64_bd {n : Int} (h : (Lit.int .u64 n).wf = true) : 0 ≤ n ∧ n ≤ 18446744073709551615 := by
  simp [Lit.wf, IntKind.min, IntKind.max, IntKind.signed, IntKind.bits] at h; omega
theorem i64_bd {n : Int} (h : (Lit.int .i64 n).wf = true) : I64B n := by
  simp [Lit.wf, IntKind.min, IntKind.max, IntKind.signed, IntKind.bits] at h; exact ⟨by omega, by omega⟩
set_option maxRecDepth 100000 in
set_option maxHeartbeats 1000000 in
theorem walk_of (w : World) (C : Ge w) (a : Int) (h1 : (Lit.int .u64 a).wf = true) (g : Int) (h2 : (Lit.int .i64 g).wf = true) (l : Int) (h3 : (Lit.int .i64 l).wf = true) (o : Int) (h4 : (Lit.int .u64 o).wf = true) :
    Calls Try.prog 3 #[.int .u64 a, .agg #[.int .i64 g, .int .i64 l, .int .u64 o]] w fun e w' => e = .returned (.bool true) ∧ Below w.heap.size w w' := by
  have b1 := u64_bd h1
  have b4 := u64_bd h4
  have b2 := i64_bd h2
  have b3 := i64_bd h3
  obtain ⟨a, rfl⟩ := Int.eq_ofNat_of_zero_le b1.1
  obtain ⟨o, rfl⟩ := Int.eq_ofNat_of_zero_le b4.1
  have ba : U64B a := by have := b1.2; omega
  have bo : U64B o := by have := b4.2; omega
  have p1 := C.at_ a ba
  have p2 := fun w => ref_at w a ba
  have p3 := C.addr g l o b2 b3 bo
  have p4 := fun w => ref_addr w g l o b2 b3 bo
  obtain ⟨⟨x, y, z⟩, hp⟩ : ∃ p, atN a = p := ⟨_, rfl⟩
  obtain ⟨E, hE⟩ : ∃ E, atE a = E := ⟨_, rfl⟩
  obtain ⟨A, hA⟩ : ∃ A, addrN g l o = A := ⟨_, rfl⟩
  obtain ⟨F, hF⟩ : ∃ F, addrE g l o = F := ⟨_, rfl⟩
  rw [hp, hE] at p1 p2
  rw [hA, hF] at p3 p4
  simp only [plcV] at p1 p2
  have P1 := Lib.hid p1; have P2 := Lib.hid p2; have P3 := Lib.hid p3; have P4 := Lib.hid p4
  have t1 : ((E : Int) == E) = true := by simp
  have t2 : ((F : Int) == F) = true := by simp
  have t3 : ((A : Int) == A) = true := by simp
  obtain ⟨b2l, b2r⟩ := b2
  obtain ⟨b3l, b3r⟩ := b3
  clear h1 h2 h3 h4 b1 b4 p1 p2 p3 p4 hp hE hA hF
  go_enter Try.func3, Try.ntmps3
  go_wp2_with fail
  refine (alive_any _ (C.up ((Below.refl _ w).alloc (Nat.le_refl _) _))).mono ?_; rintro e w1 ⟨rfl, hb⟩
  have B1 := Lib.hid (below_then ((Below.refl _ w).alloc (Nat.le_refl _) _) (by simp) hb)
  have K1 := Lib.hid ((Blk.new w 24 #[.int .i64 g, .int .i64 l, .int .u64 (o : Int)]).grew hb)
  have s1 := B1.out.size
  obtain ⟨bq, hbq⟩ : ∃ bq, w.heap.size = bq := ⟨_, rfl⟩
  rw [hbq] at K1
  clear hb
  go_wp2_with fail
  refine (P1.out _ B1.out).mono ?_; rintro e w2 ⟨rfl, hb⟩
  have B2 := Lib.hid (below_then B1.out s1 hb)
  have K2 := Lib.hid (K1.out.grew hb)
  have s2 := B2.out.size
  obtain ⟨bp, hbp⟩ : ∃ bp, w2.heap.size = bp := ⟨_, rfl⟩
  clear hb
  go_wp2_with fail
  refine (P2.out _).mono ?_; rintro e w3 ⟨rfl, hb⟩
  have L3 := Lib.hid ((Blk.new w2 26 #[.int .i64 x, .int .i64 y, .int .u64 (z : Int)]).grew hb)
  have B3 := Lib.hid (below_then (B2.out.alloc s2 _) (Nat.le_trans s2 (by simp)) hb)
  have K3 := Lib.hid ((K2.out.alloc _).grew hb)
  have s3 := B3.out.size
  obtain ⟨br, hbr⟩ : ∃ br, w3.heap.size = br := ⟨_, rfl⟩
  rw [hbp] at L3
  have M3 := Lib.hid (Blk.new w3 24 #[.int .i64 x, .int .i64 y, .int .u64 (z : Int)])
  rw [hbr] at M3
  have r0 : (w3.alloc (.cells #[.int .i64 x, .int .i64 y, .int .u64 (z : Int)] 24)).cell? ⟨bq, 0, none⟩ = some (.int .i64 g) := (K3.out.alloc _).cell 0
  have r1 : (w3.alloc (.cells #[.int .i64 x, .int .i64 y, .int .u64 (z : Int)] 24)).cell? ⟨bq, 1, none⟩ = some (.int .i64 l) := (K3.out.alloc _).cell 1
  have r2 : (w3.alloc (.cells #[.int .i64 x, .int .i64 y, .int .u64 (z : Int)] 24)).cell? ⟨bq, 2, none⟩ = some (.int .u64 (o : Int)) := (K3.out.alloc _).cell 2
  clear hb
  go_wp2_with fail
  refine (P3.out _ (B3.out.alloc s3 _)).mono ?_; rintro e w4 ⟨rfl, hb⟩
  have B4 := Lib.hid (below_then (B3.out.alloc s3 _) (Nat.le_trans s3 (by simp)) hb)
  have K4 := Lib.hid ((K3.out.alloc _).grew hb)
  have L4 := Lib.hid ((L3.out.alloc _).grew hb)
  have M4 := Lib.hid (M3.out.grew hb)
  have s4 := B4.out.size
  clear r0 r1 r2 hb
  have r0 : w4.cell? ⟨bq, 0, none⟩ = some (.int .i64 g) := K4.out.cell 0
  have r1 : w4.cell? ⟨bq, 1, none⟩ = some (.int .i64 l) := K4.out.cell 1
  have r2 : w4.cell? ⟨bq, 2, none⟩ = some (.int .u64 (o : Int)) := K4.out.cell 2
  go_wp2_with fail
  refine (P4.out _).mono ?_; rintro e w5 ⟨rfl, hb⟩
  have B5 := Lib.hid (below_then B4.out s4 hb)
  have l0 : w5.cell? ⟨bp, 0, none⟩ = some (.int .i64 x) := (L4.out.grew hb).cell 0
  have l1 : w5.cell? ⟨bp, 1, none⟩ = some (.int .i64 y) := (L4.out.grew hb).cell 1
  have l2 : w5.cell? ⟨bp, 2, none⟩ = some (.int .u64 (z : Int)) := (L4.out.grew hb).cell 2
  have m0 : w5.cell? ⟨br, 0, none⟩ = some (.int .i64 x) := (M4.out.grew hb).cell 0
  have m1 : w5.cell? ⟨br, 1, none⟩ = some (.int .i64 y) := (M4.out.grew hb).cell 1
  have m2 : w5.cell? ⟨br, 2, none⟩ = some (.int .u64 (z : Int)) := (M4.out.grew hb).cell 2
  clear hb r0 r1 r2
  go_wp2
  go_ret
  exact ⟨rfl, B5.out⟩
end Go.Proofs.Ytophomnbclgjfaa.geoPlaces
