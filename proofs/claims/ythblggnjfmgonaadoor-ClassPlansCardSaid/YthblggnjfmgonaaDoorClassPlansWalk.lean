/- The law ClassPlans, walked. -/
import Derived.Test.YthblggnjfmgonaaDoorAliveC
namespace Go.Proofs.YthblggnjfmgonaaDoor.classPlans
open Go.RowKit ClassMath
set_option linter.unusedVariables false

theorem u64_bd {n : Int} (h : (Lit.int .u64 n).wf = true) : 0 ≤ n ∧ n ≤ 18446744073709551615 := by
  simp [Lit.wf, IntKind.min, IntKind.max, IntKind.signed, IntKind.bits] at h; omega
set_option maxHeartbeats 1000000 in
theorem walk_of (w : World) (C : Cl w) (n : Int) (h1 : (Lit.int .u64 n).wf = true) (a : Int) (h2 : (Lit.int .u64 a).wf = true) :
    Calls Tryd.prog 4 #[.int .u64 n, .int .u64 a] w fun e w' => e = .returned (.bool true) ∧ Below w.heap.size w w' := by
  have b1 := u64_bd h1
  have b2 := u64_bd h2
  obtain ⟨n, rfl⟩ := Int.eq_ofNat_of_zero_le b1.1
  obtain ⟨a, rfl⟩ := Int.eq_ofNat_of_zero_le b2.1
  have p1 := C.for_ n a (by omega) (by omega)
  have p2 := fun w => ref_for w n a (by omega) (by omega)
  obtain ⟨⟨c, sl, sg, us⟩, hp⟩ : ∃ p, (forN n a).1 = p := ⟨_, rfl⟩
  obtain ⟨E, hE⟩ : ∃ E, (forN n a).2 = E := ⟨_, rfl⟩
  rw [hp, hE] at p1 p2
  simp only [plV] at p1 p2
  have P1 := Lib.hid p1; have P2 := Lib.hid p2
  have t1 : ((E : Int) == E) = true := by simp
  clear h1 h2 b1 b2 p1 p2 hp hE
  go_enter Tryd.func4, Tryd.ntmps4
  go_wp2_with fail
  refine (alive_any _ C).mono ?_; rintro e w1 ⟨rfl, hb⟩
  have B1 := Lib.hid hb
  have s1 := hb.size
  clear hb
  go_wp2_with fail
  refine (P1.out _ (by first | exact B1.out | exact B1.out.alloc s1 _)).mono ?_; rintro e w2 ⟨rfl, hb⟩
  have B2 := Lib.hid (B1.out.trans (hb.mono s1))
  have s2 := B2.out.size
  clear hb
  go_wp2_with fail
  refine (P2.out _).mono ?_; rintro e w3 ⟨rfl, hb⟩
  have B3 := Lib.hid ((B2.out.alloc s2 _).trans (hb.mono (Nat.le_trans s2 (by simp))))
  have s3 := B3.out.size
  have K := ((Blk.new w2 39 #[.int .i64 c, .int .i64 (sl : Int), .int .i64 (sg : Int), .int .u64 (us : Int)]).grew hb).alloc (.cells #[.int .i64 c, .int .i64 (sl : Int), .int .i64 (sg : Int), .int .u64 (us : Int)] 42)
  have k0 := K.cell 0
  have k1 := K.cell 1
  have k2 := K.cell 2
  have k3 := K.cell 3
  simp only [List.getElem?_toArray, List.getElem?_cons_succ, List.getElem?_cons_zero] at k0 k1 k2 k3
  clear hb K
  go_wp2
  go_ret
  exact ⟨rfl, B3.out.alloc s3 _⟩
end Go.Proofs.YthblggnjfmgonaaDoor.classPlans
