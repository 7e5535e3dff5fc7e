/- The law GeoSlices, walked. -/
import Derived.Test.YtophomnbclgjfaaRefG1
namespace Go.Proofs.Ytophomnbclgjfaa.geoSlices
open Go.RowKit GeoMath
set_option linter.unusedVariables false

theorem u16_bd {n : Int} (h : (Lit.int .u16 n).wf = true) : 0 ≤ n ∧ n ≤ 65535 := by
  simp [Lit.wf, IntKind.min, IntKind.max, IntKind.signed, IntKind.bits] at h; omega
theorem u8_bd {n : Int} (h : (Lit.int .u8 n).wf = true) : 0 ≤ n ∧ n ≤ 255 := by
  simp [Lit.wf, IntKind.min, IntKind.max, IntKind.signed, IntKind.bits] at h; omega
theorem mod_of {n m k : Nat} (h : n % m = k) : Int.tmod (n : Int) (m : Int) = (k : Int) ∧ (n : Int) % (m : Int) = (k : Int) := by
  rw [← h]; exact ⟨(Int.ofNat_tmod _ _).symm, (Int.natCast_emod _ _).symm⟩
def Going (w : World) (b8 F : Nat) (i : Value) (wr : World) : Prop := ∃ c : Nat, c ≤ 16 ∧ i = .int .i64 (c : Int) ∧ Blk wr b8 38 (runC F 1024 16) ∧ Below w.heap.size w wr
set_option maxRecDepth 100000 in
set_option maxHeartbeats 2000000 in
theorem walk_of (w : World) (C : Ge w) (sg : Int) (h1 : (Lit.int .u8 sg).wf = true) (of : Int) (h2 : (Lit.int .u16 of).wf = true) :
    Calls Try.prog 9 #[.int .u8 sg, .int .u16 of] w fun e w' => e = .returned (.bool true) ∧ Below w.heap.size w w' := by
  have b1 := u8_bd h1
  have b2 := u16_bd h2
  obtain ⟨sg, rfl⟩ := Int.eq_ofNat_of_zero_le b1.1
  obtain ⟨of, rfl⟩ := Int.eq_ofNat_of_zero_le b2.1
  have sg0 : sg ≤ 255 := by omega
  have of0 : of ≤ 65535 := by omega
  obtain ⟨s, hs⟩ : ∃ a, sg % 63 = a := ⟨_, rfl⟩
  obtain ⟨o, ho⟩ : ∃ a, of % 1024 = a := ⟨_, rfl⟩
  have m1 : Int.tmod (sg : Int) 63 = (s : Int) := (mod_of hs).1
  have m2 : (sg : Int) % 63 = (s : Int) := (mod_of hs).2
  have m3 : Int.tmod (of : Int) 1024 = (o : Int) := (mod_of ho).1
  have m4 : (of : Int) % 1024 = (o : Int) := (mod_of ho).2
  have hs1 : s ≤ 62 := by omega
  have ho1 : o ≤ 1023 := by omega
  obtain ⟨e1, e2⟩ := addr_of (g := s) (l := 0) (o := 0) (by omega) (by omega) (by omega)
  have p1 := C.addr (s : Int) 0 0 (by omega) (by omega) (by omega)
  rw [show ((0 : Nat) : Int) = 0 from rfl] at e1 e2
  rw [e1, e2] at p1
  obtain ⟨e3, e4⟩ := addr_of (g := s + 1) (l := 0) (o := 0) (by omega) (by omega) (by omega)
  have p2 := C.addr ((s + 1 : Nat) : Int) 0 0 (by omega) (by omega) (by omega)
  rw [show ((0 : Nat) : Int) = 0 from rfl] at e3 e4
  rw [e3, e4] at p2
  have p3 := C.end_ (s * 16384) 1024 16 (by omega) (by decide) (by decide)
  rw [seg_end hs1] at p3
  have hbl : ∀ c : Nat, c < 16 → ∃ A q : Nat, A ≤ 1048576 ∧ (A : Int) + (o : Int) = (q : Int) ∧ q ≤ 1048576 ∧ MadeBy w 13 #[.agg #[.int .i64 (s : Int), .int .i64 (c : Int), .int .u64 0]] (.tuple #[.int .u64 (A : Int), .int .i64 0]) ∧
      MadeBy w 15 #[runV (s * 16384) 1024 16, .int .i64 (c : Int)] (.tuple #[.int .u64 (A : Int), .int .i64 0]) ∧
      MadeBy w 17 #[runV (s * 16384) 1024 16, .int .u64 (A : Int)] (.tuple #[.int .i64 (c : Int), .int .i64 0]) ∧
      (∀ w', Below w.heap.size w w' → ∀ (a : Option Addr), Seq Elem.u64s w' (.slice a 1 1) [q] → Calls Try.prog 19 #[runV (s * 16384) 1024 16, .slice a 1 1] w' fun e w2 => e = .returned (.bool true) ∧ Below w'.heap.size w' w2) := by
    intro c hc
    refine ⟨s * 16384 + c * 1024, s * 16384 + c * 1024 + o, by omega, by omega, by omega, ?_, ?_, ?_, ?_⟩
    · obtain ⟨e1, e2⟩ := addr_of (g := s) (l := c) (o := 0) (by omega) (by omega) (by omega)
      have := C.addr (s : Int) (c : Int) 0 (by omega) (by omega) (by omega)
      rw [e1, e2] at this
      exact this
    · obtain ⟨e1, e2⟩ := seg_block hs1 hc
      have := C.block (s * 16384) 1024 16 (c : Int) (by omega) (by decide) (by decide) (by omega)
      rw [e1, e2] at this
      exact this
    · obtain ⟨e1, e2⟩ := seg_index hs1 hc
      have := C.index (s * 16384) 1024 16 (s * 16384 + c * 1024) (by omega) (by decide) (by decide) (by omega)
      rw [e1, e2] at this
      exact this
    · intro w' hw a hsq
      have := C.in_ (s * 16384) 1024 16 (by omega) (by decide) (by decide) w' hw a 1 1 _ hsq (by decide) (by decide) (by decide) (by
        intro x hx; rw [List.mem_singleton.1 hx]; omega)
      rw [seg_in hs1 hc ho1] at this
      exact this
  have hmt : ∀ w', Below w.heap.size w w' → ∀ (a : Option Addr), Seq Elem.runs w' (.slice a 2 2) [(s * 16384, 1024, 16), (s * 16384 + 16384, 1024, 1)] → Calls Try.prog 25 #[.slice a 2 2] w' fun e w2 => e = .returned (.bool false) ∧ Below w'.heap.size w' w2 := by
    intro w' hw a hsq
    have := C.meet w' hw a 2 2 _ hsq (by decide) (by decide) (by decide) (by
      intro x hx
      rcases List.mem_cons.1 hx with rfl | hx
      · exact rnB (by omega) (by omega) (by omega) (by omega)
      · rw [List.mem_singleton.1 hx]; exact rnB (by omega) (by omega) (by omega) (by omega))
    rw [seg_meet hs1] at this
    exact this
  obtain ⟨F, hF⟩ : ∃ F, s * 16384 = F := ⟨_, rfl⟩
  have hF1 : F ≤ 1015808 := by omega
  rw [show (s + 1) * 16384 = F + 16384 by omega] at p2
  obtain ⟨N, hN⟩ : ∃ N, F + 16384 = N := ⟨_, rfl⟩
  rw [show s * 16384 + 0 * 1024 + 0 = F by omega] at p1
  rw [show F + 16384 + 0 * 1024 + 0 = N by omega] at p2
  rw [hF] at p3 hbl hmt
  rw [hN] at p3 hmt
  have hN1 : N ≤ 1048576 := by omega
  simp only [runV] at p3 hbl
  have P1 := Lib.hid p1; have P2 := Lib.hid p2; have P3 := Lib.hid p3; have HBL := Lib.hid hbl; have HMT := Lib.hid hmt
  have tn : ((N : Int) == (N : Int)) = true := by simp
  clear p1 p2 p3 hbl hmt e1 e2 e3 e4 hs ho hF hN h1 h2 b1 b2
  go_enter Try.func9, Try.ntmps9
  go_wp2_with fail
  refine (alive_any _ C).mono ?_; rintro e w1 ⟨rfl, hb⟩
  have B1 := Lib.hid hb
  have s1 := B1.out.size
  clear hb
  go_wp2_with fail
  refine (P1.out _ B1.out).mono ?_; rintro e w2 ⟨rfl, hb⟩
  have B2 := Lib.hid (below_then B1.out s1 hb)
  have s2 := B2.out.size
  obtain ⟨b8, hb8⟩ : ∃ x, w2.heap.size = x := ⟨_, rfl⟩
  have K8 : Hid (Blk (w2.alloc (.cells #[.int .u64 (F : Int), .int .u64 1024, .int .i64 16] 38)) b8 38 (runC F 1024 16)) := Lib.hid (by rw [← hb8]; exact Blk.new w2 _ _)
  clear hb
  go_wp2
  go_loopw [31] (fun i wr => Going w b8 F i wr) (fun i _ => 16 - (intOf i).toNat)
  case atStart => exact ⟨0, by omega, rfl, K8.out, B2.out.alloc s2 _⟩
  case round =>
    obtain ⟨c, hc, rfl, hk, hb⟩ := hrel
    have KR := Lib.hid hk; have BR := Lib.hid hb
    have sr := hb.size
    clear hk hb
    by_cases hlt : c < 16
    · have t0 : decide ((c : Int) < 16) = true := decide_eq_true (by omega)
      obtain ⟨A, q, hA, hq, hq2, y1, y2, y3, y4⟩ := HBL.out c hlt
      have Y1 := Lib.hid y1; have Y2 := Lib.hid y2; have Y3 := Lib.hid y3; have Y4 := Lib.hid y4
      clear y1 y2 y3 y4
      go_wp2_with fail
      refine (Y1.out _ BR.out).mono ?_; rintro e w3 ⟨rfl, hb⟩
      have B3 := Lib.hid (below_then BR.out sr hb)
      have K3 := Lib.hid (KR.out.grew hb)
      have s3 := B3.out.size
      have r0 : w3.cell? ⟨b8, 0, none⟩ = some (.int .u64 (F : Int)) := K3.out.cell 0
      have r1 : w3.cell? ⟨b8, 1, none⟩ = some (.int .u64 1024) := K3.out.cell 1
      have r2 : w3.cell? ⟨b8, 2, none⟩ = some (.int .i64 16) := K3.out.cell 2
      clear hb
      go_wp2_with fail
      refine (Y2.out _ B3.out).mono ?_; rintro e w4 ⟨rfl, hb⟩
      have B4 := Lib.hid (below_then B3.out s3 hb)
      have K4 := Lib.hid (K3.out.grew hb)
      have s4 := B4.out.size
      clear r0 r1 r2
      have r0 : w4.cell? ⟨b8, 0, none⟩ = some (.int .u64 (F : Int)) := K4.out.cell 0
      have r1 : w4.cell? ⟨b8, 1, none⟩ = some (.int .u64 1024) := K4.out.cell 1
      have r2 : w4.cell? ⟨b8, 2, none⟩ = some (.int .i64 16) := K4.out.cell 2
      clear hb
      go_wp2_with fail
      refine (Y3.out _ B4.out).mono ?_; rintro e w5 ⟨rfl, hb⟩
      have B5 := Lib.hid (below_then B4.out s4 hb)
      have K5 := Lib.hid (K4.out.grew hb)
      have s5 := B5.out.size
      clear r0 r1 r2
      have r0 : w5.cell? ⟨b8, 0, none⟩ = some (.int .u64 (F : Int)) := K5.out.cell 0
      have r1 : w5.cell? ⟨b8, 1, none⟩ = some (.int .u64 1024) := K5.out.cell 1
      have r2 : w5.cell? ⟨b8, 2, none⟩ = some (.int .i64 16) := K5.out.cell 2
      have ta : ((A : Int) != (A : Int)) = false := by simp
      have tb : ((c : Int) != (c : Int)) = false := by simp
      clear hb
      go_wp2_with fail
      refine (Y4.out _ (B5.out.alloc s5 _) _ (u64_oneAt w5 _ q _ rfl)).mono ?_; rintro e w6 ⟨rfl, hb⟩
      have B6 := Lib.hid (below_then (B5.out.alloc s5 _) (Nat.le_trans s5 (by simp)) hb)
      have K6 := Lib.hid ((K5.out.alloc _).grew hb)
      clear hb r0 r1 r2
      go_wp2
      go_roundw
      case rel => exact ⟨c + 1, by omega, by go_num, K6.out, B6.out⟩
      case measure => simp [intOf]; omega
    · obtain rfl : c = 16 := by omega
      go_wp2_with fail
      refine (P2.out _ BR.out).mono ?_; rintro e w3 ⟨rfl, hb⟩
      have B3 := Lib.hid (below_then BR.out sr hb)
      have K3 := Lib.hid (KR.out.grew hb)
      have s3 := B3.out.size
      have r0 : w3.cell? ⟨b8, 0, none⟩ = some (.int .u64 (F : Int)) := K3.out.cell 0
      have r1 : w3.cell? ⟨b8, 1, none⟩ = some (.int .u64 1024) := K3.out.cell 1
      have r2 : w3.cell? ⟨b8, 2, none⟩ = some (.int .i64 16) := K3.out.cell 2
      clear hb
      go_wp2_with fail
      refine (P3.out _ B3.out).mono ?_; rintro e w4 ⟨rfl, hb⟩
      have B4 := Lib.hid (below_then B3.out s3 hb)
      have K4 := Lib.hid (K3.out.grew hb)
      have s4 := B4.out.size
      clear r0 r1 r2
      have r0 : w4.cell? ⟨b8, 0, none⟩ = some (.int .u64 (F : Int)) := K4.out.cell 0
      have r1 : w4.cell? ⟨b8, 1, none⟩ = some (.int .u64 1024) := K4.out.cell 1
      have r2 : w4.cell? ⟨b8, 2, none⟩ = some (.int .i64 16) := K4.out.cell 2
      clear hb
      go_wp2_with fail
      refine (HMT.out _ (B4.out.alloc s4 _) _ (runs_twoAt w4 _ (F, 1024, 16) (N, 1024, 1) _ rfl)).mono ?_; rintro e w5 ⟨rfl, hb⟩
      have B5 := Lib.hid (below_then (B4.out.alloc s4 _) (Nat.le_trans s4 (by simp)) hb)
      clear hb
      go_wp2
      go_ret
      exact ⟨rfl, B5.out⟩
end Go.Proofs.Ytophomnbclgjfaa.geoSlices
