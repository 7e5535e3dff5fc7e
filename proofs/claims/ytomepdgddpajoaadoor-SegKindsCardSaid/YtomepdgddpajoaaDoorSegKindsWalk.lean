/- The law SegKinds, walked. -/
import Derived.Test.YtomepdgddpajoaaDoorAliveS
import Derived.Test.YtomepdgddpajoaaDoorKn
namespace Go.Proofs.YtomepdgddpajoaaDoor.segKinds
open Go.RowKit ListMath PageMath GeoMath SegMath ClassMath
set_option linter.unusedVariables false

theorem u8_bd {n : Int} (h : (Lit.int .u8 n).wf = true) : 0 ≤ n ∧ n ≤ 255 := by
  simp [Lit.wf, IntKind.min, IntKind.max, IntKind.signed, IntKind.bits] at h; omega
theorem low_first : ∀ wd : Fin 5, 1 ≤ wd.1 → MarkMath.low newK wd.1 = some 1 := by decide
theorem low_then : ∀ wd : Fin 5, 1 ≤ wd.1 → ∀ k : Fin 12, 1 ≤ k.1 → MarkMath.low (MarkMath.setAt newK 1 wd.1 true) k.1 = some (1 + wd.1) := by decide
set_option maxHeartbeats 4000000 in
set_option maxRecDepth 100000 in
theorem walk_of (w : World) (C : SgC w) (K : Kn w) (n : Int) (h1 : (Lit.int .u8 n).wf = true) (m : Int) (h2 : (Lit.int .u8 m).wf = true) :
    Calls Tryd.prog 9 #[.int .u8 n, .int .u8 m] w fun e w' => e = .returned (.bool true) ∧ Below w.heap.size w w' := by
  have b1 := u8_bd h1
  obtain ⟨n, rfl⟩ := Int.eq_ofNat_of_zero_le b1.1
  have b2 := u8_bd h2
  obtain ⟨m, rfl⟩ := Int.eq_ofNat_of_zero_le b2.1
  have b1' : n ≤ 255 := by omega
  have b2' : m ≤ 255 := by omega
  obtain ⟨cc, hc⟩ : ∃ c, n % 12 = c := ⟨_, rfl⟩
  have hc1 : cc < 12 := by omega
  have hm1 : Int.tmod (n : Int) 12 = (cc : Int) := by rw [← hc]; exact (Int.ofNat_tmod _ _).symm
  have hm2 : (n : Int) % 12 = (cc : Int) := by omega
  obtain ⟨r, hr⟩ : ∃ r, m % 11 = r := ⟨_, rfl⟩
  have hr1 : r < 11 := by omega
  obtain ⟨k, hk⟩ : ∃ k, r + 1 = k := ⟨_, rfl⟩
  have hk1 : 1 ≤ k := by omega
  have hk2 : k ≤ 11 := by omega
  have hk3 : (r : Int) + 1 = (k : Int) := by omega
  have hm3 : Int.tmod (m : Int) 11 = (r : Int) := by rw [← hr]; exact (Int.ofNat_tmod _ _).symm
  have hm4 : (m : Int) % 11 = (r : Int) := by omega
  have z1 := size_bounds hc1
  have z2 := slices_bounds hc1
  have z3 := blocks_fit hc1
  have l1 : MarkMath.low newK (slicesAt cc) = some 1 := low_first ⟨slicesAt cc, by omega⟩ z2.1
  have l2 : MarkMath.low (MarkMath.setAt newK 1 (slicesAt cc) true) k = some (1 + slicesAt cc) := low_then ⟨slicesAt cc, by omega⟩ z2.1 ⟨k, by omega⟩ hk1
  have L1 := Lib.hid l1; have L2 := Lib.hid l2
  clear l1 l2
  have K1 := Lib.hid (K.size cc hc1); have K2 := Lib.hid (K.blocks cc hc1); have K3 := Lib.hid (K.slices cc hc1)
  have HA := Lib.hid (alive_s w C)
  clear h1 h2 b1 b2 hc hr K hk
  go_enter Tryd.func9, Tryd.ntmps9
  go_wp2_with fail
  refine HA.out.mono ?_; rintro e w1 ⟨rfl, hb⟩
  have B1 := Lib.hid hb; clear hb
  go_wp2_with fail
  refine (newMem 65536 (by decide) (by decide) (by decide) _).mono ?_; rintro e w2 ⟨p, g, L0, rfl, hm, hlen, fp, fg, hb⟩
  have M2 := Lib.hid hm; have B2 := Lib.hid (below_then B1.out B1.out.size hb); have N2 := Lib.hid hlen
  have fp' := Nat.le_trans B1.out.size fp; have fg' := Nat.le_trans B1.out.size fg
  clear hm hlen hb fp fg
  go_wp2_with fail
  refine (os_new (C := C) (pl := 1) B2.out M2.out fp' fg' N2.out (by decide)).mono ?_; rintro e w3 ⟨sp, c, I, rfl, hh, _, _⟩
  have H3 := Lib.hid hh; clear hh fp' fg'
  go_wp2_with fail
  refine (os_page H3.out (n := cc) (a := 1) hc1 L1.out).mono ?_; rintro e w4 ⟨op, pp, I2, rfl, hh, _, hpp, _, _⟩
  have H4 := Lib.hid hh
  have hppl : pp < w4.heap.size := hh.sg.lt (.inr (.inr (.inr ⟨_, insR_mem.2 (.inl rfl), .inr rfl⟩)))
  clear hh hpp
  go_wp2_with fail
  refine (os_big H4.out (n := k) (a := 1 + slicesAt cc) hk1 (by omega) L2.out).mono ?_; rintro e w5 ⟨op2, pp2, I3, rfl, hh, _, hpp2, _, _⟩
  have H5 := Lib.hid hh
  have hne : pp ≠ pp2 := by omega
  clear hh hpp2 hppl
  obtain ⟨sz, hs⟩ : ∃ x, sizeAt cc = x := ⟨_, rfl⟩
  obtain ⟨sl, hl⟩ : ∃ x, slicesAt cc = x := ⟨_, rfl⟩
  obtain ⟨bl, hbl⟩ : ∃ x, blocksAt cc = x := ⟨_, rfl⟩
  rw [hs] at K1 H5 z1
  rw [hbl] at K2 H5
  rw [hl] at K3 H5 z2
  have m1 : (⟨op, pp, (cc : Int), 1, sl, newPG (fromS 1 1) sz bl⟩ : OwR) ∈ (((newSG 1).add op pp (cc : Int) 1 sl bl sz).add op2 pp2 (-1) (1 + sl) k 1 (k * 1024)).L := insR_mem.2 (.inr ⟨insR_mem.2 (.inl rfl), by show (1 : Nat) ≠ 1 + sl; omega⟩)
  have m2 : (⟨op2, pp2, -1, 1 + sl, k, newPG (fromS 1 (1 + sl)) (k * 1024) 1⟩ : OwR) ∈ (((newSG 1).add op pp (cc : Int) 1 sl bl sz).add op2 pp2 (-1) (1 + sl) k 1 (k * 1024)).L := insR_mem.2 (.inl rfl)
  obtain ⟨X, hX⟩ : ∃ X, ((newSG 1).add op pp (cc : Int) 1 sl bl sz).add op2 pp2 (-1) (1 + sl) k 1 (k * 1024) = X := ⟨_, rfl⟩
  rw [hX] at H5 m1 m2
  obtain ⟨fa, hfa⟩ : ∃ fa, fromS 1 (1 + sl) = fa := ⟨_, rfl⟩
  obtain ⟨f1, hf1⟩ : ∃ f1, fromS 1 1 = f1 := ⟨_, rfl⟩
  obtain ⟨ks, hks⟩ : ∃ ks, k * 1024 = ks := ⟨_, rfl⟩
  have hksb : ks ≤ 11264 := by omega
  rw [hfa, hks] at m2
  rw [hf1] at m1
  have e0 : newPG fa ks 1 = fresh fa ks 1 0 := (fresh_zero fa ks 1).symm
  have a1 : allocP (newPG fa ks 1) = (fresh fa ks 1 1, fa, 0) := by rw [e0, fresh_alloc (by decide)]; simp
  have a2 : allocP (fresh fa ks 1 1) = (fresh fa ks 1 1, 0, 4) := (fresh_full fa ks 1).1
  have AL1 := Lib.hid (H5.out.alloc m2)
  -- behind the first Alloc
  have m1' : (⟨op, pp, (cc : Int), 1, sl, newPG f1 sz bl⟩ : OwR) ∈ (X.put pp2 (fresh fa ks 1 1)).L := put_mem.2 ⟨_, m1, (if_neg hne).symm⟩
  have m2' : (⟨op2, pp2, -1, 1 + sl, k, fresh fa ks 1 1⟩ : OwR) ∈ (X.put pp2 (fresh fa ks 1 1)).L := put_mem.2 ⟨_, m2, (if_pos rfl).symm⟩
  have m1'' : (⟨op, pp, (cc : Int), 1, sl, newPG f1 sz bl⟩ : OwR) ∈ ((X.put pp2 (fresh fa ks 1 1)).put pp2 (fresh fa ks 1 1)).L := put_mem.2 ⟨_, m1', (if_neg hne).symm⟩
  have m2'' : (⟨op2, pp2, -1, 1 + sl, k, fresh fa ks 1 1⟩ : OwR) ∈ ((X.put pp2 (fresh fa ks 1 1)).put pp2 (fresh fa ks 1 1)).L := put_mem.2 ⟨_, m2', (if_pos rfl).symm⟩
  have M2a := Lib.hid m2; have M1b := Lib.hid m1'; have M2b := Lib.hid m2'; have M1c := Lib.hid m1''; have M2c := Lib.hid m2''
  rw [a1] at AL1
  have A2 := Lib.hid a2; have A1 := Lib.hid a1
  have B5 := Lib.hid H5.out.below
  have HS := Lib.hid hks
  clear m1 m2 m1' m2' m1'' m2'' hX e0 a1 a2 hfa hf1 hs hl hbl hks
  go_wp2_with fail
  refine (K1.out _ B5.out).mono ?_; rintro e w6 ⟨rfl, hb⟩
  have B6 := Lib.hid (below_then B5.out B5.out.size hb); have G6 := Lib.hid hb; clear hb
  go_wp2_with fail
  refine (K2.out _ B6.out).mono ?_; rintro e w7 ⟨rfl, hb⟩
  have B7 := Lib.hid (below_then B6.out B6.out.size hb); have G7 := Lib.hid (below_then G6.out G6.out.size hb); clear hb
  go_wp2_with fail
  refine (K3.out _ B7.out).mono ?_; rintro e w8 ⟨rfl, hb⟩
  have H8 := Lib.hid (H5.out.grew (below_then G7.out G7.out.size hb)); clear hb
  have c0 : w8.cell? ⟨op2, 0, none⟩ = some (.pointer (some ⟨pp2, 0, none⟩)) := H8.out.c0 M2a.out
  have al := H8.out.alloc M2a.out
  simp only [] at al
  rw [A1.out] at al
  have AL := Lib.hid al
  clear al
  go_wp2_with fail
  refine AL.out.mono ?_; rintro e w9 ⟨rfl, L9, hh, _, _⟩
  have H9 := Lib.hid hh; clear hh c0
  have c0 : w9.cell? ⟨op2, 0, none⟩ = some (.pointer (some ⟨pp2, 0, none⟩)) := H9.out.c0 M2b.out
  have al := H9.out.alloc M2b.out
  simp only [] at al
  rw [A2.out] at al
  have AL2 := Lib.hid al
  clear al AL
  go_wp2_with fail
  refine AL2.out.mono ?_; rintro e w10 ⟨rfl, L10, hh, _, _⟩
  have H := Lib.hid hh; clear hh c0 AL2
  have RS : ∀ w, (Instr.field 68 (.agg #[.int .u64 (f1 : Int), .int .u64 (sz : Int), .int .i64 (bl : Int)]) 1).run Tryd.prog w = .ok (.int .u64 (sz : Int)) w := run_s f1 sz (bl : Int)
  have RN : ∀ w, (Instr.field 68 (.agg #[.int .u64 (f1 : Int), .int .u64 (sz : Int), .int .i64 (bl : Int)]) 2).run Tryd.prog w = .ok (.int .i64 (bl : Int)) w := run_n f1 sz (bl : Int)
  have QF : ∀ w, (Instr.field 68 (.agg #[.int .u64 (fa : Int), .int .u64 (ks : Int), .int .i64 1]) 0).run Tryd.prog w = .ok (.int .u64 (fa : Int)) w := run_f fa ks 1
  have QS : ∀ w, (Instr.field 68 (.agg #[.int .u64 (fa : Int), .int .u64 (ks : Int), .int .i64 1]) 1).run Tryd.prog w = .ok (.int .u64 (ks : Int)) w := run_s fa ks 1
  have QN : ∀ w, (Instr.field 68 (.agg #[.int .u64 (fa : Int), .int .u64 (ks : Int), .int .i64 1]) 2).run Tryd.prog w = .ok (.int .i64 1) w := run_n fa ks 1
  have c10 : w10.cell? ⟨op, 0, none⟩ = some (.pointer (some ⟨pp, 0, none⟩)) := H.out.c0 M1c.out
  have rr : Calls Tryd.prog 31 #[.pointer (some ⟨pp, 0, none⟩)] w10 fun e w2 => e = .returned (.agg #[.int .u64 (f1 : Int), .int .u64 (sz : Int), .int .i64 (bl : Int)]) ∧ OSg C sp p g I3 c L10 _ w2 ∧ Below w10.heap.size w10 w2 := H.out.run M1c.out
  have RR := Lib.hid rr
  clear rr
  go_wp2_with fail
  refine RR.out.mono ?_; rintro e w11 ⟨rfl, hh, _⟩
  clear c10 RR
  have H := Lib.hid hh; clear hh
  have c11 : w11.cell? ⟨op, 0, none⟩ = some (.pointer (some ⟨pp, 0, none⟩)) := H.out.c0 M1c.out
  have rr : Calls Tryd.prog 31 #[.pointer (some ⟨pp, 0, none⟩)] w11 fun e w2 => e = .returned (.agg #[.int .u64 (f1 : Int), .int .u64 (sz : Int), .int .i64 (bl : Int)]) ∧ OSg C sp p g I3 c L10 _ w2 ∧ Below w11.heap.size w11 w2 := H.out.run M1c.out
  have RR := Lib.hid rr
  clear rr
  go_wp2_with fail
  refine RR.out.mono ?_; rintro e w12 ⟨rfl, hh, _⟩
  clear c11 RR
  have H := Lib.hid hh; clear hh
  have c12 : w12.cell? ⟨op2, 0, none⟩ = some (.pointer (some ⟨pp2, 0, none⟩)) := H.out.c0 M2c.out
  have rr : Calls Tryd.prog 31 #[.pointer (some ⟨pp2, 0, none⟩)] w12 fun e w2 => e = .returned (.agg #[.int .u64 (fa : Int), .int .u64 (ks : Int), .int .i64 1]) ∧ OSg C sp p g I3 c L10 _ w2 ∧ Below w12.heap.size w12 w2 := H.out.run M2c.out
  have RR := Lib.hid rr
  clear rr
  have d3 : w12.cell? ⟨op, 3, none⟩ = some (.int .i64 (sl : Int)) := H.out.c3 M1c.out
  go_wp2_with fail
  refine RR.out.mono ?_; rintro e w13 ⟨rfl, hh, _⟩
  clear c12 RR
  have H := Lib.hid hh; clear hh
  have c13 : w13.cell? ⟨op2, 0, none⟩ = some (.pointer (some ⟨pp2, 0, none⟩)) := H.out.c0 M2c.out
  have rr : Calls Tryd.prog 31 #[.pointer (some ⟨pp2, 0, none⟩)] w13 fun e w2 => e = .returned (.agg #[.int .u64 (fa : Int), .int .u64 (ks : Int), .int .i64 1]) ∧ OSg C sp p g I3 c L10 _ w2 ∧ Below w13.heap.size w13 w2 := H.out.run M2c.out
  have RR := Lib.hid rr
  clear rr
  have wk : IntKind.u64.wrap ((k : Int) * 1024) = (ks : Int) := by rw [show ((k : Int) * 1024) = (ks : Int) by have := HS.out; omega]; exact IntWalk.u64_in _ ⟨by omega, by omega⟩
  go_wp2_with fail
  refine RR.out.mono ?_; rintro e w14 ⟨rfl, hh, _⟩
  clear c13 RR
  have H := Lib.hid hh; clear hh
  have c14 : w14.cell? ⟨op2, 0, none⟩ = some (.pointer (some ⟨pp2, 0, none⟩)) := H.out.c0 M2c.out
  have rr : Calls Tryd.prog 31 #[.pointer (some ⟨pp2, 0, none⟩)] w14 fun e w2 => e = .returned (.agg #[.int .u64 (fa : Int), .int .u64 (ks : Int), .int .i64 1]) ∧ OSg C sp p g I3 c L10 _ w2 ∧ Below w14.heap.size w14 w2 := H.out.run M2c.out
  have RR := Lib.hid rr
  clear rr
  go_wp2_with fail
  refine RR.out.mono ?_; rintro e w15 ⟨rfl, hh, _⟩
  clear c14 RR
  have H := Lib.hid hh; clear hh
  go_wp2
  go_ret
  exact ⟨rfl, H.out.below⟩
end Go.Proofs.YtomepdgddpajoaaDoor.segKinds
