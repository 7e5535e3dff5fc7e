/- The law GeoBlocks, walked. -/
import Derived.Test.YtophomnbclgjfaaRefG2
import Derived.Test.YtophomnbclgjfaaQuiet
import Derived.Deep.RegionHeld3
namespace Go.Proofs.Ytophomnbclgjfaa.geoBlocks
open Go.RowKit GeoMath
set_option linter.unusedVariables false

theorem u32_bd {n : Int} (h : (Lit.int .u32 n).wf = true) : 0 ≤ n ∧ n ≤ 4294967295 := by
  simp [Lit.wf, IntKind.min, IntKind.max, IntKind.signed, IntKind.bits] at h; omega
theorem u8_bd {n : Int} (h : (Lit.int .u8 n).wf = true) : 0 ≤ n ∧ n ≤ 255 := by
  simp [Lit.wf, IntKind.min, IntKind.max, IntKind.signed, IntKind.bits] at h; omega
theorem mod_of {n m k : Nat} (h : n % m = k) : Int.tmod (n : Int) (m : Int) = (k : Int) ∧ (n : Int) % (m : Int) = (k : Int) := by
  rw [← h]; exact ⟨(Int.ofNat_tmod _ _).symm, (Int.natCast_emod _ _).symm⟩
def Rising (w : World) (b7 F S M : Nat) (i : Value) (wr : World) : Prop := ∃ c : Nat, c ≤ M ∧ i = .int .i64 (c : Int) ∧ Blk wr b7 38 (runC F S (M : Int)) ∧ Below w.heap.size w wr
/-- What a round asks: block c is at A, within it q. -/
structure Asks (w : World) (F S M o c : Nat) (A q k g : Nat) : Prop where
  A_le : A ≤ 1048576
  q_le : q ≤ 1048576
  q_is : (A : Int) + (o : Int) = (q : Int)
  A_is : ((A : Int) != (F : Int) + (c : Int) * (S : Int)) = false
  p0 : (0 : Int) ≤ (c : Int) * (S : Int)
  p1 : (c : Int) * (S : Int) ≤ 1073741824
  g_is : g = 0 ∧ ((q : Int) == (A : Int)) = true ∨ g = 5 ∧ ((q : Int) == (A : Int)) = false
  y1 : MadeBy w 15 #[runV F S (M : Int), .int .i64 (c : Int)] (.tuple #[.int .u64 (A : Int), .int .i64 0])
  y2 : MadeBy w 17 #[runV F S (M : Int), .int .u64 (A : Int)] (.tuple #[.int .i64 (c : Int), .int .i64 0])
  y3 : MadeBy w 17 #[runV F S (M : Int), .int .u64 (q : Int)] (.tuple #[.int .i64 (k : Int), .int .i64 (g : Int)])
  y4 : ∀ w', Below w.heap.size w w' → ∀ (a : Option Addr), Seq Elem.u64s w' (.slice a 2 2) [q, A] → Calls Try.prog 19 #[runV F S (M : Int), .slice a 2 2] w' fun e w2 => e = .returned (.bool true) ∧ Below w'.heap.size w' w2
theorem asks {w : World} (C : Ge w) {F S M o : Nat} (hF1 : 1 ≤ F) (hF : F ≤ 900000) (hS1 : 1 ≤ S) (hS : S ≤ 200) (hM : M ≤ 59) (ho : o < S) (c : Nat) (hc : c < M) : ∃ A q k g, Asks w F S M o c A q k g := by
  have hms : M * S ≤ 59 * 200 := Nat.mul_le_mul hM hS
  have hcs : c * S + S ≤ M * S := by
    have := Nat.mul_le_mul_right S (show c + 1 ≤ M from hc)
    rwa [Nat.add_mul, Nat.one_mul] at this
  have hmay : mayN F S (M : Int) = true := may_iff.2 ⟨hS1, by omega, by omega, by omega, by omega, by rw [Int.toNat_natCast]; omega⟩
  have hA : F + c * S ≤ 1048576 := by omega
  have hq : F + c * S + o ≤ 1048576 := by omega
  have hp := prod_bd (m := c) (s := S) (by omega) (by omega)
  obtain ⟨e1, e2⟩ := block_true hmay hc
  have y1 := C.block F S (M : Int) (c : Int) (by omega) (by omega) (by omega) (by omega)
  rw [e2, e1, show (F : Int) + (c : Int) * (S : Int) = ((F + c * S : Nat) : Int) by rw [Int.natCast_add, cast_mul]] at y1
  obtain ⟨e3, e4⟩ := index_hit hmay (show (c : Int) < (M : Int) by omega) (rfl : F + c * S = F + c * S)
  have y2 := C.index F S (M : Int) (F + c * S) (by omega) (by omega) (by omega) (by omega)
  rw [e3, e4] at y2
  have y3 := C.index F S (M : Int) (F + c * S + o) (by omega) (by omega) (by omega) (by omega)
  have h1 : hits F S (M : Int) (F + c * S + o) = true := hits_block (i := c) (by omega) (by omega) (by omega)
  have h2 : hits F S (M : Int) (F + c * S) = true := hits_block (i := c) (by omega) (by omega) (by omega)
  have hin : inN F S (M : Int) [F + c * S + o, F + c * S] = true := by unfold inN; rw [hmay]; simp [h1, h2]
  have y4 : ∀ w', Below w.heap.size w w' → ∀ (a : Option Addr), Seq Elem.u64s w' (.slice a 2 2) [F + c * S + o, F + c * S] → Calls Try.prog 19 #[runV F S (M : Int), .slice a 2 2] w' fun e w2 => e = .returned (.bool true) ∧ Below w'.heap.size w' w2 := by
    intro w' hw a hsq
    have := C.in_ F S (M : Int) (by omega) (by omega) (by omega) w' hw a 2 2 _ hsq (by decide) (by decide) (by decide) (by
      intro x hx
      rcases List.mem_cons.1 hx with rfl | hx
      · omega
      · rw [List.mem_singleton.1 hx]; omega)
    rw [hin] at this
    exact this
  have hA2 : (((F + c * S : Nat) : Int) != (F : Int) + (c : Int) * (S : Int)) = false := by
    rw [bne_eq_false_iff_eq, Int.natCast_add, cast_mul]
  by_cases h0 : o = 0
  · subst h0
    rw [Nat.add_zero] at y3 y4 hq
    rw [e3, e4] at y3
    exact ⟨F + c * S, F + c * S, c, 0, hA, hq, by omega, hA2, hp.1, hp.2, Or.inl ⟨rfl, by simp⟩, y1, y2, y3, y4⟩
  · obtain ⟨e5, e6⟩ := index_mid hmay (show (c : Int) < (M : Int) by omega) (show F + c * S < F + c * S + o by omega) (by omega)
    rw [e5, e6] at y3
    exact ⟨F + c * S, F + c * S + o, 0, 5, hA, hq, by omega, hA2, hp.1, hp.2, Or.inr ⟨rfl, by rw [beq_eq_false_iff_ne]; omega⟩, y1, y2, y3, y4⟩
/-- What is asked at the end: END is behind all. -/
structure Last (w : World) (F S M E : Nat) : Prop where
  E_le : E ≤ 1048576
  E_is : ((E : Int) == (F : Int) + (M : Int) * (S : Int)) = true
  p0 : (0 : Int) ≤ (M : Int) * (S : Int)
  p1 : (M : Int) * (S : Int) ≤ 1073741824
  z1 : MadeBy w 21 #[runV F S (M : Int)] (.int .u64 (E : Int))
  z2 : MadeBy w 17 #[runV F S (M : Int), .int .u64 (E : Int)] (.tuple #[.int .i64 0, .int .i64 3])
  z3 : MadeBy w 17 #[runV F S (M : Int), .int .u64 ((F : Int) - 1)] (.tuple #[.int .i64 0, .int .i64 3])
  z4 : MadeBy w 15 #[runV F S (M : Int), .int .i64 (M : Int)] (.tuple #[.int .u64 0, .int .i64 3])
  z5 : MadeBy w 15 #[runV F S (M : Int), .int .i64 (-1)] (.tuple #[.int .u64 0, .int .i64 3])
  z6 : ∀ w', Below w.heap.size w w' → ∀ (a : Option Addr), Seq Elem.u64s w' (.slice a 1 1) [E] → Calls Try.prog 19 #[runV F S (M : Int), .slice a 1 1] w' fun e w2 => e = .returned (.bool false) ∧ Below w'.heap.size w' w2
theorem last {w : World} (C : Ge w) {F S M : Nat} (hF1 : 1 ≤ F) (hF : F ≤ 900000) (hS1 : 1 ≤ S) (hS : S ≤ 200) (hM : M ≤ 59) : ∃ E, Last w F S M E := by
  have hms : M * S ≤ 59 * 200 := Nat.mul_le_mul hM hS
  have hmay : mayN F S (M : Int) = true := may_iff.2 ⟨hS1, by omega, by omega, by omega, by omega, by rw [Int.toNat_natCast]; omega⟩
  have hp := prod_bd (m := M) (s := S) (by omega) (by omega)
  have he := end_true hmay
  obtain ⟨E, hE⟩ : ∃ E, endN F S (M : Int) = E := ⟨_, rfl⟩
  rw [hE] at he
  have hE2 : E = F + M * S := by have := cast_mul M S; omega
  have z1 := C.end_ F S (M : Int) (by omega) (by omega) (by omega)
  rw [hE] at z1
  have h1 : hits F S (M : Int) E = false := by rw [Bool.eq_false_iff]; intro h; have := hits_iff.1 h; rw [Int.toNat_natCast] at this; omega
  have h2 : hits F S (M : Int) (F - 1) = false := by rw [Bool.eq_false_iff]; intro h; have := hits_iff.1 h; omega
  obtain ⟨e1, e2⟩ := index_out hmay h1
  obtain ⟨e3, e4⟩ := index_out hmay h2
  have z2 := C.index F S (M : Int) E (by omega) (by omega) (by omega) (by omega)
  rw [e1, e2] at z2
  have z3 := C.index F S (M : Int) (F - 1) (by omega) (by omega) (by omega) (by omega)
  rw [e3, e4, show ((F - 1 : Nat) : Int) = (F : Int) - 1 by omega] at z3
  obtain ⟨e5, e6⟩ := block_out (i := (M : Int)) hmay (by omega)
  obtain ⟨e7, e8⟩ := block_out (i := -1) hmay (by omega)
  have z4 := C.block F S (M : Int) (M : Int) (by omega) (by omega) (by omega) (by omega)
  rw [e5, e6] at z4
  have z5 := C.block F S (M : Int) (-1) (by omega) (by omega) (by omega) (by omega)
  rw [e7, e8] at z5
  refine ⟨E, by omega, by rw [beq_iff_eq]; omega, hp.1, hp.2, z1, z2, z3, z4, z5, ?_⟩
  intro w' hw a hsq
  have := C.in_ F S (M : Int) (by omega) (by omega) (by omega) w' hw a 1 1 _ hsq (by decide) (by decide) (by decide) (by
    intro x hx; rw [List.mem_singleton.1 hx]; omega)
  rw [show inN F S (M : Int) [E] = false by unfold inN; simp [h1]] at this
  exact this
set_option maxRecDepth 100000 in
set_option maxHeartbeats 4000000 in
theorem walk_of (w : World) (C : Ge w) (n : Int) (h1 : (Lit.int .u32 n).wf = true) (sz : Int) (h2 : (Lit.int .u8 sz).wf = true) (m : Int) (h3 : (Lit.int .u8 m).wf = true) (of : Int) (h4 : (Lit.int .u8 of).wf = true) :
    Calls Try.prog 7 #[.agg #[.int .u32 n, .int .u8 sz, .int .u8 m, .int .u8 of]] w fun e w' => e = .returned (.bool true) ∧ Below w.heap.size w w' := by
  have b1 := u32_bd h1
  have b2 := u8_bd h2
  have b3 := u8_bd h3
  have b4 := u8_bd h4
  obtain ⟨n, rfl⟩ := Int.eq_ofNat_of_zero_le b1.1
  obtain ⟨sz, rfl⟩ := Int.eq_ofNat_of_zero_le b2.1
  obtain ⟨m, rfl⟩ := Int.eq_ofNat_of_zero_le b3.1
  obtain ⟨of, rfl⟩ := Int.eq_ofNat_of_zero_le b4.1
  have n0 : n ≤ 4294967295 := by omega
  have sz0 : sz ≤ 255 := by omega
  have m0 : m ≤ 255 := by omega
  have of0 : of ≤ 255 := by omega
  obtain ⟨x, hx⟩ : ∃ a, n % 900000 = a := ⟨_, rfl⟩
  obtain ⟨z, hz⟩ : ∃ a, sz % 200 = a := ⟨_, rfl⟩
  obtain ⟨M, hM⟩ : ∃ a, m % 60 = a := ⟨_, rfl⟩
  obtain ⟨F, hF⟩ : ∃ a, 1 + x = a := ⟨_, rfl⟩
  obtain ⟨S, hS⟩ : ∃ a, z + 1 = a := ⟨_, rfl⟩
  obtain ⟨o, ho⟩ : ∃ a, of % S = a := ⟨_, rfl⟩
  have m1 : Int.tmod (n : Int) 900000 = (x : Int) := (mod_of hx).1
  have m2 : (n : Int) % 900000 = (x : Int) := (mod_of hx).2
  have m3 : Int.tmod (sz : Int) 200 = (z : Int) := (mod_of hz).1
  have m4 : (sz : Int) % 200 = (z : Int) := (mod_of hz).2
  have m5 : Int.tmod (m : Int) 60 = (M : Int) := (mod_of hM).1
  have m6 : (m : Int) % 60 = (M : Int) := (mod_of hM).2
  have m7 : Int.tmod (of : Int) (S : Int) = (o : Int) := (mod_of ho).1
  have m8 : (of : Int) % (S : Int) = (o : Int) := (mod_of ho).2
  have m9 : (1 : Int) + (x : Int) = (F : Int) := by omega
  have m10 : (z : Int) + 1 = (S : Int) := by omega
  have hF1 : 1 ≤ F := by omega
  have hF2 : F ≤ 900000 := by omega
  have hS1 : 1 ≤ S := by omega
  have hS2 : S ≤ 200 := by omega
  have hM2 : M ≤ 59 := by omega
  have ho2 : o < S := by rw [← ho]; exact Nat.mod_lt _ (by omega)
  have hSz : ((S : Int) == 0) = false := by rw [beq_eq_false_iff_ne]; omega
  have hS0 : ¬ S = 0 := by omega
  have HASK := Lib.hid (asks C hF1 hF2 hS1 hS2 hM2 ho2)
  obtain ⟨E, hL⟩ := last C hF1 hF2 hS1 hS2 hM2
  have HL := Lib.hid hL
  clear hx hz hM hF hS ho h1 h2 h3 h4 b1 b2 b3 b4 hL
  go_enter Try.func7, Try.ntmps7
  go_wp2_with fail
  refine (alive_any _ (C.up ((Below.refl _ w).alloc (Nat.le_refl _) _))).mono ?_; rintro e w1 ⟨rfl, hb⟩
  have B1 := Lib.hid (below_then ((Below.refl _ w).alloc (Nat.le_refl _) _) (by simp) hb)
  have K1 := (Blk.new w 57 #[.int .u32 (n : Int), .int .u8 (sz : Int), .int .u8 (m : Int), .int .u8 (of : Int)]).grew hb
  have s1 := B1.out.size
  obtain ⟨bq, hbq⟩ : ∃ bq, w.heap.size = bq := ⟨_, rfl⟩
  rw [hbq] at K1
  have r0 : w1.cell? ⟨bq, 0, none⟩ = some (.int .u32 (n : Int)) := K1.cell 0
  have r1 : w1.cell? ⟨bq, 1, none⟩ = some (.int .u8 (sz : Int)) := K1.cell 1
  have r2 : w1.cell? ⟨bq, 2, none⟩ = some (.int .u8 (m : Int)) := K1.cell 2
  have r3 : w1.cell? ⟨bq, 3, none⟩ = some (.int .u8 (of : Int)) := K1.cell 3
  clear hb K1
  go_wp2_with fail
  go_quiet (fail)
  obtain ⟨b7, hb7⟩ : ∃ b, w1.heap.size = b := ⟨_, rfl⟩
  have K7 : Hid (Blk ((w1.drewN nq).alloc (.cells #[.int .u64 (F : Int), .int .u64 (S : Int), .int .i64 (M : Int)] 38)) b7 38 (runC F S (M : Int))) := Lib.hid (by rw [← hb7]; exact Blk.new (w1.drewN nq) _ _)
  have B2 := Lib.hid ((below_drewN B1.out nq).alloc s1 (.cells #[.int .u64 (F : Int), .int .u64 (S : Int), .int .i64 (M : Int)] 38))
  clear r0 r1 r2 r3
  go_wp2
  clear m1 m2 m3 m4 m5 m6 m9 m10
  go_loopw [48] (fun i wr => Rising w b7 F S M i wr) (fun i _ => M - (intOf i).toNat)
  case atStart => exact ⟨0, Nat.zero_le _, rfl, K7.out, B2.out⟩
  case round =>
    obtain ⟨c, hc, rfl, hk, hb⟩ := hrel
    have KR := Lib.hid hk; have BR := Lib.hid hb
    have sr := hb.size
    clear hk hb
    by_cases hlt : c < M
    · have t0 : decide ((c : Int) < (M : Int)) = true := decide_eq_true (by omega)
      obtain ⟨A, q, k, g, hA⟩ := HASK.out c hlt
      have HA := Lib.hid hA
      have a1 := hA.A_le; have a2 := hA.q_le; have a3 := hA.q_is; have a4 := hA.A_is; have a5 := hA.p0; have a6 := hA.p1
      have a7 := hA.g_is
      have y1 := Lib.hid hA.y1; have y2 := Lib.hid hA.y2; have y3 := Lib.hid hA.y3; have y4 := Lib.hid hA.y4
      unfold runV at y1 y2 y3 y4
      clear hA
      rcases a7 with ⟨rfl, tq⟩ | ⟨rfl, tq⟩
      all_goals
        have r0 : wr.cell? ⟨b7, 0, none⟩ = some (.int .u64 (F : Int)) := KR.out.cell 0
        have r1 : wr.cell? ⟨b7, 1, none⟩ = some (.int .u64 (S : Int)) := KR.out.cell 1
        have r2 : wr.cell? ⟨b7, 2, none⟩ = some (.int .i64 (M : Int)) := KR.out.cell 2
        go_wp2_with fail
        refine (y1.out _ BR.out).mono ?_; rintro e w3 ⟨rfl, hb⟩
        have B3 := Lib.hid (below_then BR.out sr hb)
        have K3 := Lib.hid (KR.out.grew hb)
        have s3 := B3.out.size
        clear hb r0 r1 r2
        have r0 : w3.cell? ⟨b7, 0, none⟩ = some (.int .u64 (F : Int)) := K3.out.cell 0
        have r1 : w3.cell? ⟨b7, 1, none⟩ = some (.int .u64 (S : Int)) := K3.out.cell 1
        have r2 : w3.cell? ⟨b7, 2, none⟩ = some (.int .i64 (M : Int)) := K3.out.cell 2
        go_wp2_with fail
        refine (y2.out _ B3.out).mono ?_; rintro e w4 ⟨rfl, hb⟩
        have B4 := Lib.hid (below_then B3.out s3 hb)
        have K4 := Lib.hid (K3.out.grew hb)
        have s4 := B4.out.size
        clear hb r0 r1 r2
        have r0 : w4.cell? ⟨b7, 0, none⟩ = some (.int .u64 (F : Int)) := K4.out.cell 0
        have r1 : w4.cell? ⟨b7, 1, none⟩ = some (.int .u64 (S : Int)) := K4.out.cell 1
        have r2 : w4.cell? ⟨b7, 2, none⟩ = some (.int .i64 (M : Int)) := K4.out.cell 2
        go_wp2_with fail
        refine (y3.out _ B4.out).mono ?_; rintro e w5 ⟨rfl, hb⟩
        have B5 := Lib.hid (below_then B4.out s4 hb)
        have K5 := Lib.hid (K4.out.grew hb)
        have s5 := B5.out.size
        clear hb r0 r1 r2
        have r0 : w5.cell? ⟨b7, 0, none⟩ = some (.int .u64 (F : Int)) := K5.out.cell 0
        have r1 : w5.cell? ⟨b7, 1, none⟩ = some (.int .u64 (S : Int)) := K5.out.cell 1
        have r2 : w5.cell? ⟨b7, 2, none⟩ = some (.int .i64 (M : Int)) := K5.out.cell 2
        have tb : ((c : Int) != (c : Int)) = false := by simp
        go_wp2_with fail
        refine (y4.out _ (B5.out.alloc s5 _) _ (u64_twoAt w5 _ q A _ rfl)).mono ?_; rintro e w6 ⟨rfl, hb⟩
        have B6 := Lib.hid (below_then (B5.out.alloc s5 _) (Nat.le_trans s5 (by simp)) hb)
        have K6 := Lib.hid ((K5.out.alloc _).grew hb)
        clear hb r0 r1 r2
        go_wp2
        go_roundw
        case rel => exact ⟨c + 1, by omega, by go_num, K6.out, B6.out⟩
        case measure => simp [intOf]; omega
    · obtain rfl : c = M := by omega
      have t0 : decide ((c : Int) < (c : Int)) = false := decide_eq_false (by omega)
      have e1 := HL.out.E_le; have e2 := HL.out.E_is; have e3 := HL.out.p0; have e4 := HL.out.p1
      have z1 := Lib.hid HL.out.z1; have z2 := Lib.hid HL.out.z2; have z3 := Lib.hid HL.out.z3; have z4 := Lib.hid HL.out.z4; have z5 := Lib.hid HL.out.z5; have z6 := Lib.hid HL.out.z6
      unfold runV at z1 z2 z3 z4 z5 z6
      clear m7 m8
      go_wp2_with fail
      obtain ⟨EE, WW, x0, hx0, hE, hS⟩ := classOf (fun w' => Blk w' b7 38 (runC F S (c : Int)) ∧ Below w.heap.size w w') (w := wr) ⟨KR.out.drew, BR.out.drew⟩
      have hne : Nonempty EE := ⟨x0⟩
      have c0 : ∀ x, (WW x).cell? ⟨b7, 0, none⟩ = some (.int .u64 (F : Int)) := fun x => (hS x).1.cell 0
      have c1 : ∀ x, (WW x).cell? ⟨b7, 1, none⟩ = some (.int .u64 (S : Int)) := fun x => (hS x).1.cell 1
      have c2 : ∀ x, (WW x).cell? ⟨b7, 2, none⟩ = some (.int .i64 (c : Int)) := fun x => (hS x).1.cell 2
      have HS := Lib.hid hS; have HEE := Lib.hid hE
      clear hS hE
      refine wp_region_quiet_of WW x0 hx0 (by kernel_rfl) (by kernel_rfl) ?_
      repeat (go_big_quiet_step (first
        | (go_at_call 21; refine (z1.out _ (HS.out _).2).mono ?_; rintro e w5 ⟨rfl, hb⟩; exact ⟨rfl, HEE.out _ ⟨(HS.out _).1.grew hb, below_then (HS.out _).2 (HS.out _).2.size hb⟩⟩)
        | (go_at_call 17; refine (z2.out _ (HS.out _).2).mono ?_; rintro e w5 ⟨rfl, hb⟩; exact ⟨rfl, HEE.out _ ⟨(HS.out _).1.grew hb, below_then (HS.out _).2 (HS.out _).2.size hb⟩⟩)))
      refine wpQuiet_nil ?_
      rintro _ ⟨nq2, rfl⟩
      go_wp2_with fail
      refine (z3.out _ (HS.out nq2).2).mono ?_; rintro e w3 ⟨rfl, hb⟩
      have B3 := Lib.hid (below_then (HS.out nq2).2 (HS.out nq2).2.size hb)
      have K3 := Lib.hid ((HS.out nq2).1.grew hb)
      have s3 := B3.out.size
      clear hb c0 c1 c2 hx0
      have r0 : w3.cell? ⟨b7, 0, none⟩ = some (.int .u64 (F : Int)) := K3.out.cell 0
      have r1 : w3.cell? ⟨b7, 1, none⟩ = some (.int .u64 (S : Int)) := K3.out.cell 1
      have r2 : w3.cell? ⟨b7, 2, none⟩ = some (.int .i64 (c : Int)) := K3.out.cell 2
      go_wp2_with fail
      refine (z4.out _ B3.out).mono ?_; rintro e w4 ⟨rfl, hb⟩
      have B4 := Lib.hid (below_then B3.out s3 hb)
      have K4 := Lib.hid (K3.out.grew hb)
      have s4 := B4.out.size
      clear hb r0 r1 r2
      have r0 : w4.cell? ⟨b7, 0, none⟩ = some (.int .u64 (F : Int)) := K4.out.cell 0
      have r1 : w4.cell? ⟨b7, 1, none⟩ = some (.int .u64 (S : Int)) := K4.out.cell 1
      have r2 : w4.cell? ⟨b7, 2, none⟩ = some (.int .i64 (c : Int)) := K4.out.cell 2
      go_wp2_with fail
      refine (z5.out _ B4.out).mono ?_; rintro e w5 ⟨rfl, hb⟩
      have B5 := Lib.hid (below_then B4.out s4 hb)
      have K5 := Lib.hid (K4.out.grew hb)
      clear hb r0 r1 r2
      have r0 : w5.cell? ⟨b7, 0, none⟩ = some (.int .u64 (F : Int)) := K5.out.cell 0
      have r1 : w5.cell? ⟨b7, 1, none⟩ = some (.int .u64 (S : Int)) := K5.out.cell 1
      have r2 : w5.cell? ⟨b7, 2, none⟩ = some (.int .i64 (c : Int)) := K5.out.cell 2
      have ST : Hid (Blk w5 b7 38 (runC F S (c : Int)) ∧ Below w.heap.size w w5) := Lib.hid ⟨K5.out, B5.out⟩
      go_wp2_with fail
      clear K5 B5 K4 B4 K3 B3
      go_region_held3 (fun w' => w'.cell? ⟨b7, 0, none⟩ = some (.int .u64 (F : Int)) ∧ w'.cell? ⟨b7, 1, none⟩ = some (.int .u64 (S : Int)) ∧ w'.cell? ⟨b7, 2, none⟩ = some (.int .i64 (c : Int))) (first | go_keep | exact ⟨r0, r1, r2⟩)
        (first
          | (go_at_call 21; refine (z1.out _ (by first | exact ST.out.2 | exact ST.out.2.drew)).mono ?_; rintro e w6 ⟨rfl, hb⟩; have ST : Hid (Blk w6 b7 38 (runC F S (c : Int)) ∧ Below w.heap.size w w6) := Lib.hid ⟨by first | exact ST.out.1.grew hb | exact ST.out.1.drew.grew hb, by first | exact below_then ST.out.2 ST.out.2.size hb | exact below_then ST.out.2.drew ST.out.2.size hb⟩; have r0 := ST.out.1.cell 0; have r1 := ST.out.1.cell 1; have r2 := ST.out.1.cell 2; simp only [runC, List.getElem?_toArray, List.getElem?_cons_succ, List.getElem?_cons_zero] at r0 r1 r2; clear hb)
          | (go_at_call 19; refine (z6.out _ (ST.out.2.alloc ST.out.2.size _) _ (u64_oneAt _ _ E _ rfl)).mono ?_; rintro e w6 ⟨rfl, hb⟩; have ST := Lib.hid (And.intro ((ST.out.1.alloc _).grew hb) (below_then (ST.out.2.alloc ST.out.2.size _) (Nat.le_trans ST.out.2.size (by simp)) hb)); have r0 := ST.out.1.cell 0; have r1 := ST.out.1.cell 1; have r2 := ST.out.1.cell 2; simp only [runC, List.getElem?_toArray, List.getElem?_cons_succ, List.getElem?_cons_zero] at r0 r1 r2; clear hb))
      go_wp2
      go_ret
      have W1 : IntKind.u64.wrap (c : Int) = (c : Int) := u64_in _ ⟨by omega, by omega⟩
      have W2 : IntKind.u64.wrap ((c : Int) * (S : Int)) = (c : Int) * (S : Int) := u64_in _ ⟨by omega, by omega⟩
      have W3 : IntKind.u64.wrap ((F : Int) + (c : Int) * (S : Int)) = (F : Int) + (c : Int) * (S : Int) := u64_in _ ⟨by omega, by omega⟩
      have WW4 : ((E : Int) == IntKind.u64.wrap ((F : Int) + IntKind.u64.wrap (IntKind.u64.wrap (c : Int) * (S : Int)))) = true := by rw [W1, W2, W3]; exact e2
      exact ⟨(show Ending.returned (.bool ((E : Int) == IntKind.u64.wrap ((F : Int) + IntKind.u64.wrap (IntKind.u64.wrap (c : Int) * (S : Int))))) = _ from by rw [WW4]), ST.out.2⟩
end Go.Proofs.Ytophomnbclgjfaa.geoBlocks
