/- The law GeoBack, walked. -/
import Derived.Test.YtophomnbclgjfaaRefG1
import Derived.BigQuiet
namespace Go.Proofs.Ytophomnbclgjfaa.geoBack
open Go.RowKit GeoMath
set_option linter.unusedVariables false

theorem u32_bd {n : Int} (h : (Lit.int .u32 n).wf = true) : 0 ≤ n ∧ n ≤ 4294967295 := by
  simp [Lit.wf, IntKind.min, IntKind.max, IntKind.signed, IntKind.bits] at h; omega
theorem u16_bd {n : Int} (h : (Lit.int .u16 n).wf = true) : 0 ≤ n ∧ n ≤ 65535 := by
  simp [Lit.wf, IntKind.min, IntKind.max, IntKind.signed, IntKind.bits] at h; omega
theorem u8_bd {n : Int} (h : (Lit.int .u8 n).wf = true) : 0 ≤ n ∧ n ≤ 255 := by
  simp [Lit.wf, IntKind.min, IntKind.max, IntKind.signed, IntKind.bits] at h; omega
theorem mod_of {n m k : Nat} (h : n % m = k) : Int.tmod (n : Int) (m : Int) = (k : Int) ∧ (n : Int) % (m : Int) = (k : Int) := by
  rw [← h]; exact ⟨(Int.ofNat_tmod _ _).symm, (Int.natCast_emod _ _).symm⟩
set_option maxRecDepth 100000 in
set_option maxHeartbeats 2000000 in
theorem walk_of (w : World) (C : Ge w) (n : Int) (h1 : (Lit.int .u32 n).wf = true) (sg : Int) (h2 : (Lit.int .u8 sg).wf = true) (sl : Int) (h3 : (Lit.int .u8 sl).wf = true) (of : Int) (h4 : (Lit.int .u16 of).wf = true) :
    Calls Try.prog 6 #[.agg #[.int .u32 n, .int .u8 sg, .int .u8 sl, .int .u16 of]] w fun e w' => e = .returned (.bool true) ∧ Below w.heap.size w w' := by
  have b1 := u32_bd h1
  have b2 := u8_bd h2
  have b3 := u8_bd h3
  have b4 := u16_bd h4
  obtain ⟨n, rfl⟩ := Int.eq_ofNat_of_zero_le b1.1
  obtain ⟨sg, rfl⟩ := Int.eq_ofNat_of_zero_le b2.1
  obtain ⟨sl, rfl⟩ := Int.eq_ofNat_of_zero_le b3.1
  obtain ⟨of, rfl⟩ := Int.eq_ofNat_of_zero_le b4.1
  have n0 : n ≤ 4294967295 := by omega
  have sg0 : sg ≤ 255 := by omega
  have sl0 : sl ≤ 255 := by omega
  have of0 : of ≤ 65535 := by omega
  obtain ⟨a, ha⟩ : ∃ a, n % 1048576 = a := ⟨_, rfl⟩
  obtain ⟨g, hg⟩ : ∃ a, sg % 64 = a := ⟨_, rfl⟩
  obtain ⟨l, hl⟩ : ∃ a, sl % 16 = a := ⟨_, rfl⟩
  obtain ⟨o, ho⟩ : ∃ a, of % 1024 = a := ⟨_, rfl⟩
  have m1 : Int.tmod (n : Int) 1048576 = (a : Int) := (mod_of ha).1
  have m2 : (n : Int) % 1048576 = (a : Int) := (mod_of ha).2
  have m3 : Int.tmod (sg : Int) 64 = (g : Int) := (mod_of hg).1
  have m4 : (sg : Int) % 64 = (g : Int) := (mod_of hg).2
  have m5 : Int.tmod (sl : Int) 16 = (l : Int) := (mod_of hl).1
  have m6 : (sl : Int) % 16 = (l : Int) := (mod_of hl).2
  have m7 : Int.tmod (of : Int) 1024 = (o : Int) := (mod_of ho).1
  have m8 : (of : Int) % 1024 = (o : Int) := (mod_of ho).2
  have ha1 : a < 1048576 := by omega
  have hg1 : g ≤ 63 := by omega
  have hl1 : l ≤ 15 := by omega
  have ho1 : o ≤ 1023 := by omega
  obtain ⟨x, hx⟩ : ∃ x, a / 16384 = x := ⟨_, rfl⟩
  obtain ⟨y, hy⟩ : ∃ x, a % 16384 / 1024 = x := ⟨_, rfl⟩
  obtain ⟨z, hz⟩ : ∃ x, a % 1024 = x := ⟨_, rfl⟩
  obtain ⟨e1, e2, hx1, hy1, hz1⟩ := back_addr ha1 hx hy hz
  have p1 := C.at_ a (by omega)
  rw [atN_lt ha1, atE_lt ha1, hx, hy, hz] at p1
  have p2 := C.addr (x : Int) (y : Int) z (by omega) (by omega) (by omega)
  rw [e1, e2] at p2
  obtain ⟨e3, e4⟩ := addr_of (g := g) (l := l) (o := o) hg1 hl1 ho1
  obtain ⟨e5, e6⟩ := at_addr (g := g) (l := l) (o := o) hg1 hl1 ho1
  have p3 := C.addr (g : Int) (l : Int) o (by omega) (by omega) (by omega)
  rw [e3, e4] at p3
  obtain ⟨c, hc⟩ : ∃ c, g * 16384 + l * 1024 + o = c := ⟨_, rfl⟩
  rw [hc] at p3 e5 e6
  have hc1 : c < 1048576 := by omega
  have p4 := C.at_ c (by omega)
  rw [e5, e6] at p4
  have p5 := C.at_ (a + 1) (by omega)
  have hnext := at_next ha1 hx hy hz
  obtain ⟨E, hE⟩ : ∃ E, atE (a + 1) = E := ⟨_, rfl⟩
  obtain ⟨⟨nx, ny, nz⟩, hN⟩ : ∃ N, atN (a + 1) = N := ⟨_, rfl⟩
  rw [hE, hN] at p5 hnext
  simp only [plcV] at p1 p4 p5
  have P1 := Lib.hid p1; have P2 := Lib.hid p2; have P3 := Lib.hid p3; have P4 := Lib.hid p4; have P5 := Lib.hid p5
  have HNX := Lib.hid hnext
  clear p1 p2 p3 p4 p5 e1 e2 e3 e4 e5 e6 hE hN hx hy hz hc ha hg hl ho h1 h2 h3 h4 b1 b2 b3 b4 hnext
  have t1 : ((a : Int) != (a : Int)) = false := by simp
  go_enter Try.func6, Try.ntmps6
  go_wp2_with fail
  refine (alive_any _ (C.up ((Below.refl _ w).alloc (Nat.le_refl _) _))).mono ?_; rintro e w1 ⟨rfl, hb⟩
  have B1 := Lib.hid (below_then ((Below.refl _ w).alloc (Nat.le_refl _) _) (by simp) hb)
  have K1 := (Blk.new w 54 #[.int .u32 (n : Int), .int .u8 (sg : Int), .int .u8 (sl : Int), .int .u16 (of : Int)]).grew hb
  have s1 := B1.out.size
  obtain ⟨bq, hbq⟩ : ∃ bq, w.heap.size = bq := ⟨_, rfl⟩
  rw [hbq] at K1
  have r0 : w1.cell? ⟨bq, 0, none⟩ = some (.int .u32 (n : Int)) := K1.cell 0
  have r1 : w1.cell? ⟨bq, 1, none⟩ = some (.int .u8 (sg : Int)) := K1.cell 1
  have r2 : w1.cell? ⟨bq, 2, none⟩ = some (.int .u8 (sl : Int)) := K1.cell 2
  have r3 : w1.cell? ⟨bq, 3, none⟩ = some (.int .u16 (of : Int)) := K1.cell 3
  clear hb K1
  go_wp2_with fail
  go_quiet (fail)
  go_wp2_with fail
  refine (P1.out _ (below_drewN B1.out nq)).mono ?_; rintro e w2 ⟨rfl, hb⟩
  have B2 := Lib.hid (below_then (below_drewN B1.out nq) s1 hb)
  have s2 := B2.out.size
  obtain ⟨b8, hb8⟩ : ∃ x, w2.heap.size = x := ⟨_, rfl⟩
  have K8 : Hid (Blk (w2.alloc (.cells #[.int .i64 (x : Int), .int .i64 (y : Int), .int .u64 (z : Int)] 26)) b8 26 #[.int .i64 (x : Int), .int .i64 (y : Int), .int .u64 (z : Int)]) := Lib.hid (by rw [← hb8]; exact Blk.new w2 _ _)
  clear hb r0 r1 r2 r3
  go_wp2_with fail
  refine (P2.out _ (B2.out.alloc s2 _)).mono ?_; rintro e w3 ⟨rfl, hb⟩
  have B3 := Lib.hid (below_then (B2.out.alloc s2 _) (Nat.le_trans s2 (by simp)) hb)
  have K8 := Lib.hid (K8.out.grew hb)
  have s3 := B3.out.size
  obtain ⟨b12, hb12⟩ : ∃ x, w3.heap.size = x := ⟨_, rfl⟩
  have K12 : Hid (Blk (w3.alloc (.cells #[.int .i64 (g : Int), .int .i64 (l : Int), .int .u64 (o : Int)] 26)) b12 26 #[.int .i64 (g : Int), .int .i64 (l : Int), .int .u64 (o : Int)]) := Lib.hid (by rw [← hb12]; exact Blk.new w3 _ _)
  have h8 : w.heap.size ≤ b8 := by omega
  clear hb hb8
  go_wp2_with fail
  refine (P3.out _ (B3.out.alloc s3 _)).mono ?_; rintro e w4 ⟨rfl, hb⟩
  have B4 := Lib.hid (below_then (B3.out.alloc s3 _) (Nat.le_trans s3 (by simp)) hb)
  have K8 := Lib.hid ((K8.out.alloc _).grew hb)
  have K12 := Lib.hid (K12.out.grew hb)
  have s4 := B4.out.size
  clear hb hb12 m1 m2 m3 m4 m5 m6 m7 m8
  go_wp2_with fail
  refine (P4.out _ B4.out).mono ?_; rintro e w5 ⟨rfl, hb⟩
  have B5 := Lib.hid (below_then B4.out s4 hb)
  have K8 := Lib.hid (K8.out.grew hb)
  have K12 := Lib.hid (K12.out.grew hb)
  have s5 := B5.out.size
  obtain ⟨b15, hb15⟩ : ∃ x, w5.heap.size = x := ⟨_, rfl⟩
  have o0 : (w5.alloc (.cells #[.int .i64 (g : Int), .int .i64 (l : Int), .int .u64 (o : Int)] 26)).cell? ⟨b12, 0, none⟩ = some (.int .i64 (g : Int)) := (K12.out.alloc _).cell 0
  have o1 : (w5.alloc (.cells #[.int .i64 (g : Int), .int .i64 (l : Int), .int .u64 (o : Int)] 26)).cell? ⟨b12, 1, none⟩ = some (.int .i64 (l : Int)) := (K12.out.alloc _).cell 1
  have o2 : (w5.alloc (.cells #[.int .i64 (g : Int), .int .i64 (l : Int), .int .u64 (o : Int)] 26)).cell? ⟨b12, 2, none⟩ = some (.int .u64 (o : Int)) := (K12.out.alloc _).cell 2
  clear hb
  go_wp2_with fail
  refine (P5.out _ (B5.out.alloc s5 _)).mono ?_; rintro e w6 ⟨rfl, hb⟩
  have B6 := Lib.hid (below_then (B5.out.alloc s5 _) (Nat.le_trans s5 (by simp)) hb)
  have K8 := Lib.hid ((K8.out.alloc _).grew hb)
  have s6 := B6.out.size
  obtain ⟨b17, hb17⟩ : ∃ x, w6.heap.size = x := ⟨_, rfl⟩
  have hne : b8 ≠ b17 := by have := K8.out.lt; omega
  have hne2 : b17 ≠ b8 := fun e => hne e.symm
  clear hb o0 o1 o2 hb15
  have fin : ∀ (w6 : World), w6 = w6 → True := fun _ _ => trivial
  rcases HNX.out with ⟨hh, e1, rfl⟩ | ⟨hh, rfl, ⟨hh2, e1⟩ | ⟨hh2, hh3, e1⟩ | ⟨hh2, hh3, e1⟩⟩
  all_goals
    injection e1 with q1 q2 q3
    subst q1 q2 q3
  · have t2 : ((a : Int) + 1 == 1048576) = true := by rw [beq_iff_eq]; omega
    go_wp2
    go_ret
    exact ⟨rfl, B6.out.alloc s6 _⟩
  · have t2 : ((a : Int) + 1 == 1048576) = false := by rw [beq_eq_false_iff_ne]; omega
    have t3 : decide ((z : Int) < 1023) = true := decide_eq_true (by omega)
    have K8' := (K8.out.alloc (.cells #[.int .i64 (x : Int), .int .i64 (y : Int), .int .u64 ((z : Int) + 1)] 26))
    have KN := Blk.new w6 26 #[.int .i64 (x : Int), .int .i64 (y : Int), .int .u64 ((z : Int) + 1)]
    rw [hb17] at KN
    have x0 := K8'.cell 0
    have x1 := K8'.cell 1
    have x2 := K8'.cell 2
    have f0 := K8'.frozen 0
    have f1 := K8'.frozen 1
    have f2 := K8'.frozen 2
    have n0 := KN.cell 0
    have n1 := KN.cell 1
    have n2 := KN.cell 2
    simp only [List.getElem?_toArray, List.getElem?_cons_succ, List.getElem?_cons_zero] at x0 x1 x2 n0 n1 n2
    clear K8' KN
    go_wp2
    go_ret
    exact ⟨rfl, by first | exact (B6.out.alloc s6 _).setCell h8 _ | exact ((B6.out.alloc s6 _).setCell h8 _).setCell h8 _ | exact (((B6.out.alloc s6 _).setCell h8 _).setCell h8 _).setCell h8 _⟩
  · have t2 : ((a : Int) + 1 == 1048576) = false := by rw [beq_eq_false_iff_ne]; omega
    have t3 : decide ((z : Int) < 1023) = false := decide_eq_false (by omega)
    have t4 : decide ((y : Int) < 15) = true := decide_eq_true (by omega)
    have K8' := (K8.out.alloc (.cells #[.int .i64 (x : Int), .int .i64 ((y : Int) + 1), .int .u64 (0)] 26))
    have KN := Blk.new w6 26 #[.int .i64 (x : Int), .int .i64 ((y : Int) + 1), .int .u64 (0)]
    rw [hb17] at KN
    have x0 := K8'.cell 0
    have x1 := K8'.cell 1
    have x2 := K8'.cell 2
    have f0 := K8'.frozen 0
    have f1 := K8'.frozen 1
    have f2 := K8'.frozen 2
    have n0 := KN.cell 0
    have n1 := KN.cell 1
    have n2 := KN.cell 2
    simp only [List.getElem?_toArray, List.getElem?_cons_succ, List.getElem?_cons_zero] at x0 x1 x2 n0 n1 n2
    clear K8' KN
    go_wp2
    go_ret
    exact ⟨rfl, by first | exact (B6.out.alloc s6 _).setCell h8 _ | exact ((B6.out.alloc s6 _).setCell h8 _).setCell h8 _ | exact (((B6.out.alloc s6 _).setCell h8 _).setCell h8 _).setCell h8 _⟩
  · have t2 : ((a : Int) + 1 == 1048576) = false := by rw [beq_eq_false_iff_ne]; omega
    have t3 : decide ((z : Int) < 1023) = false := decide_eq_false (by omega)
    have t4 : decide ((y : Int) < 15) = false := decide_eq_false (by omega)
    have K8' := (K8.out.alloc (.cells #[.int .i64 ((x : Int) + 1), .int .i64 (0), .int .u64 (0)] 26))
    have KN := Blk.new w6 26 #[.int .i64 ((x : Int) + 1), .int .i64 (0), .int .u64 (0)]
    rw [hb17] at KN
    have x0 := K8'.cell 0
    have x1 := K8'.cell 1
    have x2 := K8'.cell 2
    have f0 := K8'.frozen 0
    have f1 := K8'.frozen 1
    have f2 := K8'.frozen 2
    have n0 := KN.cell 0
    have n1 := KN.cell 1
    have n2 := KN.cell 2
    simp only [List.getElem?_toArray, List.getElem?_cons_succ, List.getElem?_cons_zero] at x0 x1 x2 n0 n1 n2
    clear K8' KN
    go_wp2
    go_ret
    exact ⟨rfl, by first | exact (B6.out.alloc s6 _).setCell h8 _ | exact ((B6.out.alloc s6 _).setCell h8 _).setCell h8 _ | exact (((B6.out.alloc s6 _).setCell h8 _).setCell h8 _).setCell h8 _⟩
end Go.Proofs.Ytophomnbclgjfaa.geoBack
