/- The laws' 'alive' of layer 10. -/
import Derived.Test.YtomepdgddpajoaaDoorSegOs
namespace Go.Proofs.YtomepdgddpajoaaDoor
open Go.RowKit ListMath PageMath GeoMath SegMath ClassMath
set_option linter.unusedVariables false

theorem run_f (a b : Nat) (n : Int) (w : World) : (Instr.field 68 (.agg #[.int .u64 (a : Int), .int .u64 (b : Int), .int .i64 n]) 0).run Tryd.prog w = .ok (.int .u64 (a : Int)) w := by kernel_rfl
theorem run_s (a b : Nat) (n : Int) (w : World) : (Instr.field 68 (.agg #[.int .u64 (a : Int), .int .u64 (b : Int), .int .i64 n]) 1).run Tryd.prog w = .ok (.int .u64 (b : Int)) w := by kernel_rfl
theorem run_n (a b : Nat) (n : Int) (w : World) : (Instr.field 68 (.agg #[.int .u64 (a : Int), .int .u64 (b : Int), .int .i64 n]) 2).run Tryd.prog w = .ok (.int .i64 n) w := by kernel_rfl
theorem low_new1 : MarkMath.low newK 1 = some 1 := by decide
theorem low_new2 : MarkMath.low (MarkMath.setAt newK 1 1 true) 2 = some 2 := by decide
theorem left_new2 : MarkMath.left (MarkMath.setAt (MarkMath.setAt newK 1 1 true) 2 2 true) = 12 := by decide
set_option maxRecDepth 100000 in
set_option maxHeartbeats 2000000 in
theorem alive_s (w : World) (C : SgC w) : Calls Tryd.prog 10 #[] w fun e w' => e = .returned (.bool true) ∧ Below w.heap.size w w' := by
  go_enter Tryd.func10, Tryd.ntmps10
  go_wp2_with fail
  refine (newMem 65536 (by decide) (by decide) (by decide) _).mono ?_; rintro e w1 ⟨p, g, L0, rfl, hm, hlen, fp, fg, hb⟩
  have M1 := Lib.hid hm; have B1 := Lib.hid hb; have L1 := Lib.hid hlen
  clear hm hlen hb
  go_wp2_with fail
  refine (os_new (C := C) (pl := 1) B1.out M1.out fp fg L1.out (by decide)).mono ?_; rintro e w2 ⟨sp, c, I, rfl, hh, _, hb⟩
  have H2 := Lib.hid hh
  clear hh hb fp fg
  go_wp2_with fail
  refine (os_page H2.out (n := 0) (a := 1) (by decide) low_new1).mono ?_; rintro e w3 ⟨op, pp, I2, rfl, hh, _, _, _, _⟩
  obtain ⟨o1, ho1⟩ : ∃ o1, (⟨op, pp, ((0 : Nat) : Int), 1, slicesAt 0, newPG (fromS 1 1) (sizeAt 0) (blocksAt 0)⟩ : OwR) = o1 := ⟨_, rfl⟩
  have H3 := Lib.hid hh; clear hh
  go_wp2_with fail
  refine (os_big H3.out (n := 2) (a := 2) (by decide) (by decide) low_new2).mono ?_; rintro e w4 ⟨op2, pp2, I3, rfl, hh, _, _, _, _⟩
  have H4 := Lib.hid hh; clear hh
  go_wp2_with fail
  refine (C.page_nil _ ⟨by decide, by decide⟩).mono ?_; rintro e w5 ⟨rfl, hb⟩
  have H5 := Lib.hid (H4.out.grew hb); clear hb
  have m1 : o1 ∈ (((newSG 1).add op pp ((0 : Nat) : Int) 1 (slicesAt 0) (blocksAt 0) (sizeAt 0)).add op2 pp2 (-1) 2 2 1 (2 * 1024)).L := by
    rw [← ho1]; exact insR_mem.2 (.inr ⟨insR_mem.2 (.inl rfl), by show (1 : Nat) ≠ 2; decide⟩)
  have m2 : (⟨op2, pp2, -1, 2, 2, newPG (fromS 1 2) (2 * 1024) 1⟩ : OwR) ∈ (((newSG 1).add op pp ((0 : Nat) : Int) 1 (slicesAt 0) (blocksAt 0) (sizeAt 0)).add op2 pp2 (-1) 2 2 1 (2 * 1024)).L := insR_mem.2 (.inl rfl)
  have M1' := Lib.hid m1; have M2' := Lib.hid m2
  clear m1 m2
  have c0 : w5.cell? ⟨op, 0, none⟩ = some (.pointer (some ⟨pp, 0, none⟩)) := by have := H5.out.c0 M1'.out; rw [← ho1] at this; exact this
  have HR := Lib.hid (H5.out.run M1'.out)
  have HO := Lib.hid ho1
  rw [← ho1] at HR
  clear ho1
  go_wp2_with fail
  refine HR.out.mono ?_; rintro e w6 ⟨rfl, hh, _⟩
  have H6 := Lib.hid hh; clear hh c0
  have c2 : w6.cell? ⟨op, 2, none⟩ = some (.int .i64 1) := by have := H6.out.c2 M1'.out; rw [← HO.out] at this; exact this
  have d2 : w6.cell? ⟨op2, 2, none⟩ = some (.int .i64 2) := H6.out.c2 M2'.out
  have d3 : w6.cell? ⟨op2, 3, none⟩ = some (.int .i64 2) := H6.out.c3 M2'.out
  have e1 : (newPG (fromS 1 1) (sizeAt 0) (blocksAt 0)).f = 17408 := rfl
  unfold runV
  rw [e1]
  obtain ⟨s1, hs1⟩ : ∃ s, (newPG (fromS 1 1) (sizeAt 0) (blocksAt 0)).s = s := ⟨_, rfl⟩
  obtain ⟨n1, hn1⟩ : ∃ n, (newPG (fromS 1 1) (sizeAt 0) (blocksAt 0)).n = n := ⟨_, rfl⟩
  rw [hs1, hn1]
  have RF : ∀ w, (Instr.field 68 (.agg #[.int .u64 17408, .int .u64 (s1 : Int), .int .i64 (n1 : Int)]) 0).run Tryd.prog w = .ok (.int .u64 17408) w := run_f 17408 s1 (n1 : Int)
  clear hs1 hn1
  go_wp2_with fail
  refine (os_left H6.out).mono ?_; rintro e w7 ⟨rfl, hh, _⟩
  have H7 := Lib.hid hh; clear hh
  have e2 : (((newSG 1).add op pp ((0 : Nat) : Int) 1 (slicesAt 0) (blocksAt 0) (sizeAt 0)).add op2 pp2 (-1) 2 2 1 (2 * 1024)).K = MarkMath.setAt (MarkMath.setAt newK 1 1 true) 2 2 true := rfl
  rw [e2, left_new2]
  go_wp2
  go_ret
  exact ⟨rfl, H7.out.below⟩
end Go.Proofs.YtomepdgddpajoaaDoor
