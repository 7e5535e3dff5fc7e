/- The law GeoRuns, walked. -/
import Derived.Test.YtophomnbclgjfaaRefG4
import Derived.Deep.RegionHeld3
namespace Go.Proofs.Ytophomnbclgjfaa.geoRuns
open Go.RowKit GeoMath
set_option linter.unusedVariables false

theorem u64_bd {n : Int} (h : (Lit.int .u64 n).wf = true) : 0 ≤ n ∧ n ≤ 18446744073709551615 := by
  simp [Lit.wf, IntKind.min, IntKind.max, IntKind.signed, IntKind.bits] at h; omega
theorem i64_bd {n : Int} (h : (Lit.int .i64 n).wf = true) : I64B n := by
  simp [Lit.wf, IntKind.min, IntKind.max, IntKind.signed, IntKind.bits] at h; exact ⟨by omega, by omega⟩
set_option maxRecDepth 100000 in
set_option maxHeartbeats 4000000 in
theorem walk_of (w : World) (C : Ge w) (f : Int) (h1 : (Lit.int .u64 f).wf = true) (s : Int) (h2 : (Lit.int .u64 s).wf = true) (n : Int) (h3 : (Lit.int .i64 n).wf = true) (i : Int) (h4 : (Lit.int .i64 i).wf = true) (a : Int) (h5 : (Lit.int .u64 a).wf = true) :
    Calls Try.prog 4 #[.agg #[.int .u64 f, .int .u64 s, .int .i64 n], .int .i64 i, .int .u64 a] w fun e w' => e = .returned (.bool true) ∧ Below w.heap.size w w' := by
  have b1 := u64_bd h1
  have b2 := u64_bd h2
  have b3 := i64_bd h3
  have b4 := i64_bd h4
  have b5 := u64_bd h5
  obtain ⟨f, rfl⟩ := Int.eq_ofNat_of_zero_le b1.1
  obtain ⟨s, rfl⟩ := Int.eq_ofNat_of_zero_le b2.1
  obtain ⟨a, rfl⟩ := Int.eq_ofNat_of_zero_le b5.1
  have bf : U64B f := by have := b1.2; omega
  have bs : U64B s := by have := b2.2; omega
  have ba : U64B a := by have := b5.2; omega
  have p1 := C.block f s n i bf bs b3 b4
  have p2 := fun w => ref_block w f s n i bf bs b3 b4
  have p3 := C.index f s n a bf bs b3 ba
  have p4 := fun w => ref_index w f s n a bf bs b3 ba
  have p5 : ∀ w', Below w.heap.size w w' → ∀ (x : Option Addr), Seq Elem.u64s w' (.slice x 1 1) [a] → Calls Try.prog 19 #[runV f s n, .slice x 1 1] w' fun e w2 => e = .returned (.bool (inN f s n [a])) ∧ Below w'.heap.size w' w2 :=
    fun w' hw x hsq => C.in_ f s n bf bs b3 w' hw x 1 1 [a] hsq (by decide) (by decide) (by decide) (by intro x hx; rw [List.mem_singleton.1 hx]; exact ba)
  have p6 := fun w => ref_in w f s n a bf bs b3 ba
  have p7 := C.end_ f s n bf bs b3
  have p8 := fun w => ref_end w f s n bf bs b3
  have p9 : ∀ w', Below w.heap.size w w' → Calls Try.prog 19 #[runV f s n, .slice none 0 0] w' fun e w2 => e = .returned (.bool (mayN f s n)) ∧ Below w'.heap.size w' w2 := fun w' hw => by
    have := C.in_ f s n bf bs b3 w' hw none 0 0 [] (Seq.nil w') (by decide) (by decide) (by decide) (by intro x hx; cases hx)
    rw [in_nil] at this
    exact this
  have p10 := fun w => ref_may w f s n bf bs b3
  obtain ⟨b3l, b3r⟩ := b3
  obtain ⟨b4l, b4r⟩ := b4
  obtain ⟨BN, hBN⟩ : ∃ x, blockN f s n i = x := ⟨_, rfl⟩
  obtain ⟨BE, hBE⟩ : ∃ x, blockE f s n i = x := ⟨_, rfl⟩
  obtain ⟨IN, hIN⟩ : ∃ x, indexN f s n a = x := ⟨_, rfl⟩
  obtain ⟨IE, hIE⟩ : ∃ x, indexE f s n a = x := ⟨_, rfl⟩
  obtain ⟨YY, hYY⟩ : ∃ x, inN f s n [a] = x := ⟨_, rfl⟩
  obtain ⟨EN, hEN⟩ : ∃ x, endN f s n = x := ⟨_, rfl⟩
  obtain ⟨MM, hMM⟩ : ∃ x, mayN f s n = x := ⟨_, rfl⟩
  rw [hBN, hBE] at p1 p2
  rw [hIN, hIE] at p3 p4
  rw [hYY] at p5 p6
  rw [hEN] at p7 p8
  rw [hMM] at p9 p10
  simp only [runV] at p1 p2 p3 p4 p5 p6 p7 p8 p9 p10
  have P1 := Lib.hid p1; have P2 := Lib.hid p2; have P3 := Lib.hid p3; have P4 := Lib.hid p4; have P5 := Lib.hid p5
  have P6 := Lib.hid p6; have P7 := Lib.hid p7; have P8 := Lib.hid p8; have P9 := Lib.hid p9; have P10 := Lib.hid p10
  have t1 : ((BN : Int) == (BN : Int)) = true := by simp
  have t2 : ((BE : Int) == BE) = true := by simp
  have t3 : ((IN : Int) == (IN : Int)) = true := by simp
  have t4 : ((IE : Int) == IE) = true := by simp
  have t5 : ((EN : Int) == (EN : Int)) = true := by simp
  have t6 : (YY == YY) = true := by simp
  have t7 : (MM == MM) = true := by simp
  clear p1 p2 p3 p4 p5 p6 p7 p8 p9 p10 hBN hBE hIN hIE hYY hEN hMM h1 h2 h3 h4 h5 b1 b2 b5
  go_enter Try.func4, Try.ntmps4
  go_wp2_with fail
  refine (alive_any _ (C.up ((Below.refl _ w).alloc (Nat.le_refl _) _))).mono ?_; rintro e w1 ⟨rfl, hb⟩
  have B1 := Lib.hid (below_then ((Below.refl _ w).alloc (Nat.le_refl _) _) (by simp) hb)
  have K1 := Lib.hid ((Blk.new w 37 #[.int .u64 (f : Int), .int .u64 (s : Int), .int .i64 n]).grew hb)
  have s1 := B1.out.size
  obtain ⟨bq, hbq⟩ : ∃ x, w.heap.size = x := ⟨_, rfl⟩
  rw [hbq] at K1
  have c0 : w1.cell? ⟨bq, 0, none⟩ = some (.int .u64 (f : Int)) := K1.out.cell 0
  have c1 : w1.cell? ⟨bq, 1, none⟩ = some (.int .u64 (s : Int)) := K1.out.cell 1
  have c2 : w1.cell? ⟨bq, 2, none⟩ = some (.int .i64 n) := K1.out.cell 2
  clear hb
  go_wp2_with fail
  refine (P1.out _ (B1.out.alloc s1 _)).mono ?_; rintro e w2 ⟨rfl, hb⟩
  obtain ⟨b7, hb7⟩ : ∃ x, w1.heap.size = x := ⟨_, rfl⟩
  have K7 := (Blk.new w1 38 #[.int .u64 (f : Int), .int .u64 (s : Int), .int .i64 n]).grew hb
  rw [hb7] at K7
  have ST : Hid (TwoRuns w bq b7 37 38 (f, s, n) (f, s, n) w2) := Lib.hid ⟨(K1.out.alloc _).grew hb, K7, below_then (B1.out.alloc s1 _) (Nat.le_trans s1 (by simp)) hb⟩
  clear hb K1 K7 c0 c1 c2
  obtain ⟨d0, d1, d2, d3, d4, d5⟩ := ST.out.cells
  go_wp2_with fail
  refine (P2.out _).mono ?_; rintro e w3 ⟨rfl, hb⟩
  have ST := Lib.hid (ST.out.grew hb)
  clear hb d0 d1 d2 d3 d4 d5
  obtain ⟨d0, d1, d2, d3, d4, d5⟩ := ST.out.cells
  go_wp2_with fail
  refine (P3.out _ ST.out.below).mono ?_; rintro e w4 ⟨rfl, hb⟩
  have ST := Lib.hid (ST.out.grew hb)
  clear hb d0 d1 d2 d3 d4 d5
  obtain ⟨d0, d1, d2, d3, d4, d5⟩ := ST.out.cells
  go_wp2_with fail
  refine (P4.out _).mono ?_; rintro e w5 ⟨rfl, hb⟩
  have ST := Lib.hid (ST.out.grew hb)
  clear hb d0 d1 d2 d3 d4 d5
  obtain ⟨d0, d1, d2, d3, d4, d5⟩ := ST.out.cells
  go_wp2_with fail
  go_region_held3 (fun w' => w'.cell? ⟨bq, 0, none⟩ = some (.int .u64 (f : Int)) ∧ w'.cell? ⟨bq, 1, none⟩ = some (.int .u64 (s : Int)) ∧ w'.cell? ⟨bq, 2, none⟩ = some (.int .i64 n) ∧ w'.cell? ⟨b7, 0, none⟩ = some (.int .u64 (f : Int)) ∧ w'.cell? ⟨b7, 1, none⟩ = some (.int .u64 (s : Int)) ∧ w'.cell? ⟨b7, 2, none⟩ = some (.int .i64 n)) (first | go_keep | exact ⟨d0, d1, d2, d3, d4, d5⟩)
    (first
      | (go_at_call_of 19 (Value.slice none 0 0); refine (P9.out _ (by first | exact ST.out.below | exact ST.out.below.drew)).mono ?_; rintro e w5 ⟨rfl, hb⟩; have ST := Lib.hid (ST.out.grew hb); obtain ⟨d0, d1, d2, d3, d4, d5⟩ := ST.out.cells; clear hb)
      | (go_at_call 19; refine (P5.out _ ((ST.out.alloc _).drew.below) _ (Seq.drew (u64_oneAt _ _ a _ rfl))).mono ?_; rintro e w5 ⟨rfl, hb⟩; have ST := Lib.hid ((ST.out.alloc _).drew.grew hb); obtain ⟨d0, d1, d2, d3, d4, d5⟩ := ST.out.cells; clear hb)
      | (go_at_call 20; refine (P6.out _).mono ?_; rintro e w5 ⟨rfl, hb⟩; have ST := Lib.hid (ST.out.grew hb); obtain ⟨d0, d1, d2, d3, d4, d5⟩ := ST.out.cells; clear hb)
      | (go_at_call 21; refine (P7.out _ ST.out.below).mono ?_; rintro e w5 ⟨rfl, hb⟩; have ST := Lib.hid (ST.out.grew hb); obtain ⟨d0, d1, d2, d3, d4, d5⟩ := ST.out.cells; clear hb)
      | (go_at_call 22; refine (P8.out _).mono ?_; rintro e w5 ⟨rfl, hb⟩; have ST := Lib.hid (ST.out.grew hb); obtain ⟨d0, d1, d2, d3, d4, d5⟩ := ST.out.cells; clear hb)
      | (go_at_call 23; refine (P10.out _).mono ?_; rintro e w5 ⟨rfl, hb⟩; have ST := Lib.hid (ST.out.grew hb); obtain ⟨d0, d1, d2, d3, d4, d5⟩ := ST.out.cells; clear hb))
  go_wp2
  go_ret
  exact ⟨rfl, ST.out.below⟩
end Go.Proofs.Ytophomnbclgjfaa.geoRuns
