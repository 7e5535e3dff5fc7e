/- The law PageAdds, walked. -/
import Derived.Test.YtlnlipjnljbegaaActs9
import Derived.Deep.CutBlock
import Derived.Deep.DeepCutAuto
namespace Go.Proofs.Ytlnlipjnljbegaa.pageAdds
open Go.RowKit Go.Maps ListMath PageMath GeoMath
set_option linter.unusedVariables false

/-- So many acts are done. -/
def Adding (w : World) (C : PgC w) (pp p g : Nat) (O : Nat → Prop) (nb : Nat) (c : Addr) (s n k9 m : Nat) (v i : Value) (wr : World) : Prop :=
  ∃ (j : Nat) (U P L : List Nat) (S : PG), j ≤ m ∧ i = .int .i64 (j : Int) ∧ Us w C pp p g O nb c s n j U P L S wr ∧ Row v U (k9 + 1) wr ∧ Blk wr k9 34 (runC 1024 s (n : Int)) ∧ k9 + 1 ≤ wr.heap.size
/-- Behind an act. -/
def Mid (w : World) (C : PgC w) (pp p g : Nat) (O : Nat → Prop) (nb : Nat) (c : Addr) (s n T k9 : Nat) (v : Value) (wx : World) : Prop :=
  ∃ (U P L : List Nat) (S : PG), Us w C pp p g O nb c s n T U P L S wx ∧ Row v U (k9 + 1) wx ∧ Blk wx k9 34 (runC 1024 s (n : Int)) ∧ k9 + 1 ≤ wx.heap.size
/-- So many of all blocks are looked at. -/
def Looking (w : World) (C : PgC w) (pp p g : Nat) (O : Nat → Prop) (nb : Nat) (c : Addr) (s n T k9 b23 : Nat) (U P L : List Nat) (S : PG) (v va : Value) (All : List Nat) (i : Value) (wr : World) : Prop :=
  ∃ (q : Nat) (D : DataW Unit), q ≤ All.length ∧ i = .int .i64 (q : Int) ∧ Us w C pp p g O nb c s n T U P L S wr ∧ Row v U (k9 + 1) wr ∧ Blk wr k9 34 (runC 1024 s (n : Int)) ∧ Row va All (b23 + 1) wr ∧ wr.ownsMap Try.prog 22 (plainElem Try.prog 4) b23 q D ∧ MetU D (All.take q) ∧ k9 + 1 ≤ wr.heap.size
set_option maxRecDepth 100000 in
set_option maxHeartbeats 8000000 in
theorem walk_short (w : World) (C : PgC w) (A B : Nat) (hs1 : A ≤ 255) (hs2 : B ≤ 255) {a : Option Addr} {len cap : Nat} (F : Nat → Nat → Value) (h : Recs w (.slice a len cap) [.num .i64, .num .i64, .num .u64] len F) (hl : len ≤ 100) :
    Calls Try.prog 6 #[.int .u8 (A : Int), .int .u8 (B : Int), .slice a len cap] w fun e w' => e = .returned (.bool true) ∧ Below w.heap.size w w' := by
  have HF := Lib.hid h
  have tm : decide ((100 : Int) < (len : Int)) = false := decide_eq_false (by omega)
  clear h
  obtain ⟨i0, hi, hz0', hz1, hz2⟩ := info_parts infoU64
  go_enter Try.func6, Try.ntmps6
  go_wp2_with fail
  refine (alive_any _ C).mono ?_; rintro e w1 ⟨rfl, hb⟩
  have B1 := Lib.hid hb
  clear hb
  go_wp2_with fail
  refine (made_any w C A B hs1 hs2 _ B1.out).mono ?_; rintro e w2 ⟨pp, p, g, O, nb, c, L0, rfl, hh, hl0, hnb⟩
  have hsb := size_bd A
  have hnb2 := count_bd B
  obtain ⟨s, hs⟩ : ∃ s, sizeN A = s := ⟨_, rfl⟩
  obtain ⟨n, hn⟩ : ∃ n, countN B = n := ⟨_, rfl⟩
  rw [hs] at hh hsb
  rw [hn] at hh hnb2
  rw [hs, hn]
  obtain ⟨s16, s256⟩ := hsb
  obtain ⟨n1, n60⟩ := hnb2
  have hmay : mayN 1024 s (n : Int) = true := (C.good hh.pg).may
  have MAY := Lib.hid hmay
  have H2 : Hid (Us w C pp p g O nb c s n 0 [] [] L0 (newPG 1024 s n) w2) := Lib.hid ⟨hh, Wh.new _ _ _ _, rfl, rfl, rfl, Nat.le_refl _⟩
  have HNB := Lib.hid hnb
  clear hh hl0 hnb hs hn hmay
  unfold runV
  have b9 := Blk.new w2 34 #[.int .u64 1024, .int .u64 (s : Int), .int .i64 (n : Int)]
  have h3 := H2.out.alloc (.cells #[.int .u64 1024, .int .u64 (s : Int), .int .i64 (n : Int)] 34)
  obtain ⟨w3, hw3⟩ : ∃ x, w2.alloc (.cells #[.int .u64 1024, .int .u64 (s : Int), .int .i64 (n : Int)] 34) = x := ⟨_, rfl⟩
  have s3 : w3.heap.size = w2.heap.size + 1 := by rw [← hw3]; simp
  rw [hw3] at b9 h3
  obtain ⟨k9, hk9⟩ : ∃ k, w2.heap.size = k := ⟨_, rfl⟩
  rw [hk9] at b9
  have I0 : Hid (Adding w C pp p g O nb c s n k9 len (.slice none 0 0) (.int .i64 0) w3) := Lib.hid ⟨0, [], [], L0, _, Nat.zero_le _, rfl, h3, Row.nil _ _, b9, by omega⟩
  have hnb9 : nb = k9 := by rw [HNB.out, hk9]
  have NB9 := Lib.hid hnb9
  clear h3 b9 s3 hnb9
  go_wp2_with fail
  clear hw3 hk9
  go_loopw [11, 48] (fun v i wr => Adding w C pp p g O nb c s n k9 len v i wr) (fun _ i _ => len - (intOf i).toNat)
  case atStart => exact I0.out
  case round =>
    clear I0
    obtain ⟨j, U, P, L, S, hj, rfl, hu, hr, hb, hk⟩ := hrel
    obtain ⟨av, cv, rfl, hc1, hc2⟩ := hr.slice
    obtain ⟨z, hz⟩ : ∃ z, U.length = z := ⟨_, rfl⟩
    rw [hz] at hr hc1 ⊢
    have HU := Lib.hid hu; have HR := Lib.hid hr; have HB := Lib.hid hb; have HK := Lib.hid hk; have ZZ := Lib.hid hz
    clear hr hb hk hz
    by_cases hjl : j < len
    · obtain ⟨b2, off2, kd, wh, X, ea, hact, hkd, hwh, hX⟩ := act9 HF.out hjl
      obtain ⟨x0, x1, x2⟩ := hact wr hu.has.below
      subst ea
      have t2 : decide ((j : Int) < (len : Int)) = true := decide_eq_true (by omega)
      have q3 : (0 : Int) ≤ (j : Int) := by omega
      have q4 : (j : Int) < (len : Int) := by omega
      clear hact hu
      -- THE ROUND
      have bA := Blk.new wr 42 #[.int .i64 kd, .int .i64 wh, .int .u64 (X : Int)]
      obtain ⟨W1, hW1⟩ : ∃ x, wr.alloc (.cells #[.int .i64 kd, .int .i64 wh, .int .u64 (X : Int)] 42) = x := ⟨_, rfl⟩
      obtain ⟨bc, hbc⟩ : ∃ b, wr.heap.size = b := ⟨_, rfl⟩
      have hs1 : W1.heap.size = wr.heap.size + 1 := by rw [← hW1]; simp
      rw [hW1, hbc] at bA
      have m0 : W1.cell? ⟨bc, 0, none⟩ = some (.int .i64 kd) := bA.cell 0
      have hgr : Below wr.heap.size wr W1 := by rw [← hW1]; exact (Below.refl _ wr).alloc (Nat.le_refl _) _
      have U1 := Lib.hid (HU.out.grew hgr); have R1 := Lib.hid (HR.out.grew hgr); have B1' := Lib.hid (HB.out.grew hgr)
      have K1 : Hid (k9 + 1 ≤ W1.heap.size) := Lib.hid (Nat.le_trans HK.out hgr.size)
      have hz60 : z ≤ 60 := by
        have h1 := HU.out.wh.use; have h2 := HU.out.wh.add; have h3 := (C.good HU.out.has.pg).made; have h4 := HU.out.n; have h5 := ZZ.out
        omega
      have hct : S.ct ≤ 100 := by have := HU.out.ct; omega
      have hOb : ∀ b, O b → b < k9 + 1 := fun b hb => by have h1 := HU.out.has.hi b hb; rw [NB9.out] at h1; omega
      have OB := Lib.hid hOb
      clear bA hgr hs1 hOb
      go_upto_block 2 with fail
      clear hW1 hbc x0 x1 x2
      go_cut [11] (fun v wx => Mid w C pp p g O nb c s n (j + 1) k9 v wx)
      case first =>
        by_cases h4 : kd = 4
        · subst h4
          go_wp2_with fail
          refine (us_gather U1.out).mono ?_; rintro e w6 ⟨L6, S6, rfl, hh, hu⟩
          have r6 := R1.out.upd hu OB.out
          have b6 := U1.out.has.blk hu B1'.out (by rw [NB9.out]; exact Nat.le_refl _)
          have M6 : Hid (Mid w C pp p g O nb c s n (j + 1) k9 (.slice av z cv) w6) := Lib.hid ⟨_, _, _, _, hh, r6, b6, Nat.le_trans K1.out hu.size⟩
          clear hh hu r6 b6
          go_wp2_with fail
          go_meet
          exact M6.out
        · have k4 : (kd == (4 : Int)) = false := by rw [beq_eq_false_iff_ne]; exact h4
          have MU : Hid (∀ (U2 P2 L2 : List Nat) (S2 : PG) (w2 : World), Us w C pp p g O nb c s n j U2 P2 L2 S2 w2 → Us w C pp p g O nb c s n (j + 1) U2 P2 L2 S2 w2) := Lib.hid fun U2 P2 L2 S2 w2 h => ⟨h.has, h.wh, h.f, h.s, h.n, Nat.le_succ_of_le h.ct⟩
          clear h4
          by_cases hz0 : z = 0
          · have z1 : decide ((0 : Int) < (z : Int)) = false := decide_eq_false (by omega)
            have z1' : decide (0 < z) = false := decide_eq_false (by omega)
            have zc : ((kd == (1 : Int)) = true ∧ kd ≠ 0) ∨ ((kd == (1 : Int)) = false ∧ (kd == (2 : Int)) = true ∧ kd ≠ 0) ∨ ((kd == (1 : Int)) = false ∧ (kd == (2 : Int)) = false) := by
              by_cases h1 : kd = 1
              · exact .inl ⟨by rw [beq_iff_eq]; exact h1, by omega⟩
              · by_cases h2 : kd = 2
                · exact .inr (.inl ⟨by rw [beq_eq_false_iff_ne]; exact h1, by rw [beq_iff_eq]; exact h2, by omega⟩)
                · exact .inr (.inr ⟨by rw [beq_eq_false_iff_ne]; exact h1, by rw [beq_eq_false_iff_ne]; exact h2⟩)
            clear hz0
            rcases zc with ⟨e1, hn0⟩ | ⟨e1, e2, hn0⟩ | ⟨e1, e2⟩
            · have e0 : (kd == (0 : Int)) = false := by rw [beq_eq_false_iff_ne]; exact hn0
              clear hn0
              go_wp2_with fail
              go_meet
              exact ⟨_, _, _, _, MU.out _ _ _ _ _ U1.out, R1.out, B1'.out, K1.out⟩
            · have e0 : (kd == (0 : Int)) = false := by rw [beq_eq_false_iff_ne]; exact hn0
              clear hn0
              go_wp2_with fail
              go_meet
              exact ⟨_, _, _, _, MU.out _ _ _ _ _ U1.out, R1.out, B1'.out, K1.out⟩
            · by_cases h0 : kd = 0
              · have e0 : (kd == (0 : Int)) = true := by rw [beq_iff_eq]; exact h0
                clear h0
                go_wp2_with fail
                refine (us_alloc U1.out).mono ?_; rintro e w6 ⟨L6, S6, ⟨x6, rfl, hx6, hnx6, hh, hu⟩ | ⟨rfl, hh, hu⟩⟩
                · have r6 := R1.out.upd hu OB.out
                  have b6 := U1.out.has.blk hu B1'.out (by rw [NB9.out]; exact Nat.le_refl _)
                  have U6 := Lib.hid hh; have R6 := Lib.hid r6; have B6 := Lib.hid b6
                  have K6 : Hid (k9 + 1 ≤ w6.heap.size) := Lib.hid (Nat.le_trans K1.out hu.size)
                  clear hh hu r6 b6 hnx6
                  go_wp2_with (at_builtin; refine wpList_append_vec (E := Elem.u64s) rfl (.tmp 106) (.tmp 108) 38 rfl 22 i0 (.int .u64 0) 8 Try.underlying38 hi hz0' hz1 hz2 rfl (.slice av z cv) (.slice (some ⟨w6.heap.size, 0, none⟩) 1 1) U [x6] rfl rfl (R6.out.alloc _).vec (u64_oneAt w6 22 x6 _ rfl) ?_ ?_ ?_; (rw [ZZ.out]; simp only [maxLen, List.length_cons, List.length_nil]; omega); (rw [ZZ.out]; simp only [List.length_cons, List.length_nil]; omega); intro v7 w7 hv7 hu7 hin7; have M7 : Hid (Mid w C pp p g O nb c s n (j + 1) k9 v7 w7) := Lib.hid ⟨_, _, _, _, MU.out _ _ _ _ _ ((U6.out.alloc (.cells #[.int .u64 (x6 : Int)] 22)).upd hu7 (fun b hb => by have := R6.out.far b hb; rw [NB9.out]; omega)), (R6.out.alloc _).app (by rw [World.size_alloc]; have := K6.out; omega) hv7 hin7, (B6.out.alloc _).upd hu7 (fun hb => by have := R6.out.far _ hb; omega), (by have h1 := hu7.size; rw [World.size_alloc] at h1; have h2 := K6.out; omega)⟩; clear hv7 hu7 hin7)
                  go_meet
                  exact M7.out
                · have r6 := R1.out.upd hu OB.out
                  have b6 := U1.out.has.blk hu B1'.out (by rw [NB9.out]; exact Nat.le_refl _)
                  have M6 : Hid (Mid w C pp p g O nb c s n (j + 1) k9 (.slice av z cv) w6) := Lib.hid ⟨_, _, _, _, MU.out _ _ _ _ _ hh, r6, b6, Nat.le_trans K1.out hu.size⟩
                  clear hh hu r6 b6
                  go_wp2_with fail
                  go_meet
                  exact M6.out
              · have e0 : (kd == (0 : Int)) = false := by rw [beq_eq_false_iff_ne]; exact h0
                clear h0
                go_wp2_with fail
                go_meet
                exact ⟨_, _, _, _, MU.out _ _ _ _ _ U1.out, R1.out, B1'.out, K1.out⟩
          · have z1 : decide ((0 : Int) < (z : Int)) = true := decide_eq_true (by omega)
            have z1' : decide (0 < z) = true := decide_eq_true (by omega)
            have zp : (0 : Int) < (z : Int) := by omega
            have zp' : 0 < z := by omega
            obtain ⟨x, hx⟩ : ∃ x, U[0]? = some x := ⟨U[0]'(by rw [ZZ.out]; omega), List.getElem?_eq_getElem _⟩
            obtain ⟨rest, hrest⟩ : ∃ rest, U = x :: rest := by
              cases hU : U with
              | nil => rw [hU] at hx; simp at hx
              | cons y t => rw [hU] at hx; simp at hx; exact ⟨t, by rw [hx]⟩
            have hperm : U.Perm (x :: U.drop 1) := by rw [hrest]; exact List.Perm.refl _
            obtain ⟨bv, ov, rfl, _⟩ := R1.out.vec.seq.elem hx
            have y0 := R1.out.cell hx
            rw [Nat.add_zero] at y0
            obtain ⟨sv, hsl, hin1, _, hvec1⟩ := cut_from (E := Elem.u64s) (P := Try.prog) 38 Try.underlying38 sizeU (some ⟨bv, ov, none⟩) z cv 1 (by omega) hc1
            have hsl1 : ∀ w, (Instr.slice 38 (.slice (some ⟨bv, ov, none⟩) z cv) (some (.int .i64 1)) none none).run Try.prog w = .ok sv w := hsl
            have VC1 := Lib.hid hvec1; have IN1 := Lib.hid hin1; have HP := Lib.hid hperm
            clear hsl hvec1 hin1 hx hrest hperm hz0
            by_cases h1 : kd = 1
            · subst h1
              go_wp2_with fail
              refine (us_free (U1.out.alloc (.cells #[.int .u64 (x : Int)] 22)) HP.out (u64_oneAt W1 22 x _ rfl) (by have h1 := U1.out.has.size; exact h1)).mono ?_
              rintro e w6 ⟨L6, S6, rfl, hh, hu⟩
              have r6 := (R1.out.alloc (.cells #[.int .u64 (x : Int)] 22)).upd hu OB.out
              have r6' : Row sv (U.drop 1) (k9 + 1) w6 := ⟨VC1.out _ _ r6.vec, fun b hb => r6.far b (IN1.out b hb)⟩
              have b6 := (U1.out.alloc (.cells #[.int .u64 (x : Int)] 22)).has.blk hu (B1'.out.alloc _) (by rw [NB9.out]; exact Nat.le_refl _)
              have M6 : Hid (Mid w C pp p g O nb c s n (j + 1) k9 sv w6) := Lib.hid ⟨_, _, _, _, MU.out _ _ _ _ _ hh, r6', b6, by have h1 := hu.size; rw [World.size_alloc] at h1; have h2 := K1.out; omega⟩
              clear hh hu r6 r6' b6
              go_wp2_with fail
              go_meet
              exact M6.out
            · have e1 : (kd == (1 : Int)) = false := by rw [beq_eq_false_iff_ne]; exact h1
              clear h1
              by_cases h2 : kd = 2
              · subst h2
                go_wp2_with fail
                refine (has_cell U1.out.has).mono ?_; rintro e w6 ⟨rfl, _, hb⟩
                have U6 := Lib.hid (U1.out.grew hb); have R6 := Lib.hid (R1.out.grew hb); have B6 := Lib.hid (B1'.out.grew hb)
                have K6 : Hid (k9 + 1 ≤ w6.heap.size) := Lib.hid (Nat.le_trans K1.out hb.size)
                clear hb
                go_wp2_with fail
                refine (us_load U6.out).mono ?_; rintro e w7 ⟨rfl, hh, hu⟩
                have U7 := Lib.hid hh; have R7 := Lib.hid (R6.out.upd hu OB.out); have B7 := Lib.hid (U6.out.has.blk hu B6.out (by rw [NB9.out]; exact Nat.le_refl _))
                have K7 : Hid (k9 + 1 ≤ w7.heap.size) := Lib.hid (Nat.le_trans K6.out hu.size)
                clear hh hu
                go_wp2_with fail
                refine (us_post U7.out HP.out (show S.asked.ct ≤ _ by show S.ct ≤ _; omega)).mono ?_; rintro e w8 ⟨rfl, hh, hu⟩
                have r8 := R7.out.upd hu OB.out
                have r8' : Row sv (U.drop 1) (k9 + 1) w8 := ⟨VC1.out _ _ r8.vec, fun b hb => r8.far b (IN1.out b hb)⟩
                have b8 := U7.out.has.blk hu B7.out (by rw [NB9.out]; exact Nat.le_refl _)
                have M8 : Hid (Mid w C pp p g O nb c s n (j + 1) k9 sv w8) := Lib.hid ⟨_, _, _, _, hh, r8', b8, Nat.le_trans K7.out hu.size⟩
                clear hh hu r8 r8' b8
                go_wp2_with fail
                go_meet
                exact M8.out
              · have e2 : (kd == (2 : Int)) = false := by rw [beq_eq_false_iff_ne]; exact h2
                clear h2
                by_cases h0 : kd = 0
                · have e0 : (kd == (0 : Int)) = true := by rw [beq_iff_eq]; exact h0
                  clear h0
                  go_wp2_with fail
                  refine (us_alloc U1.out).mono ?_; rintro e w6 ⟨L6, S6, ⟨x6, rfl, hx6, hnx6, hh, hu⟩ | ⟨rfl, hh, hu⟩⟩
                  · have r6 := R1.out.upd hu OB.out
                    have b6 := U1.out.has.blk hu B1'.out (by rw [NB9.out]; exact Nat.le_refl _)
                    have U6 := Lib.hid hh; have R6 := Lib.hid r6; have B6 := Lib.hid b6
                    have K6 : Hid (k9 + 1 ≤ w6.heap.size) := Lib.hid (Nat.le_trans K1.out hu.size)
                    clear hh hu r6 b6 hnx6
                    go_wp2_with (at_builtin; refine wpList_append_vec (E := Elem.u64s) rfl (.tmp 106) (.tmp 108) 38 rfl 22 i0 (.int .u64 0) 8 Try.underlying38 hi hz0' hz1 hz2 rfl (.slice (some ⟨bv, ov, none⟩) z cv) (.slice (some ⟨w6.heap.size, 0, none⟩) 1 1) U [x6] rfl rfl (R6.out.alloc _).vec (u64_oneAt w6 22 x6 _ rfl) ?_ ?_ ?_; (rw [ZZ.out]; simp only [maxLen, List.length_cons, List.length_nil]; omega); (rw [ZZ.out]; simp only [List.length_cons, List.length_nil]; omega); intro v7 w7 hv7 hu7 hin7; have M7 : Hid (Mid w C pp p g O nb c s n (j + 1) k9 v7 w7) := Lib.hid ⟨_, _, _, _, MU.out _ _ _ _ _ ((U6.out.alloc (.cells #[.int .u64 (x6 : Int)] 22)).upd hu7 (fun b hb => by have := R6.out.far b hb; rw [NB9.out]; omega)), (R6.out.alloc _).app (by rw [World.size_alloc]; have := K6.out; omega) hv7 hin7, (B6.out.alloc _).upd hu7 (fun hb => by have := R6.out.far _ hb; omega), (by have h1 := hu7.size; rw [World.size_alloc] at h1; have h2 := K6.out; omega)⟩; clear hv7 hu7 hin7)
                    go_meet
                    exact M7.out
                  · have r6 := R1.out.upd hu OB.out
                    have b6 := U1.out.has.blk hu B1'.out (by rw [NB9.out]; exact Nat.le_refl _)
                    have M6 : Hid (Mid w C pp p g O nb c s n (j + 1) k9 (.slice (some ⟨bv, ov, none⟩) z cv) w6) := Lib.hid ⟨_, _, _, _, MU.out _ _ _ _ _ hh, r6, b6, Nat.le_trans K1.out hu.size⟩
                    clear hh hu r6 b6
                    go_wp2_with fail
                    go_meet
                    exact M6.out
                · have e0 : (kd == (0 : Int)) = false := by rw [beq_eq_false_iff_ne]; exact h0
                  clear h0
                  go_wp2_with fail
                  go_meet
                  exact ⟨_, _, _, _, MU.out _ _ _ _ _ U1.out, R1.out, B1'.out, K1.out⟩
      case rest =>
        obtain ⟨U2, P2, L2, S2, hu2, hr2, hb2, hk2⟩ := hcut
        obtain ⟨av2, cv2, rfl, hd1, hd2⟩ := hr2.slice
        obtain ⟨z2, hz2'⟩ : ∃ z, U2.length = z := ⟨_, rfl⟩
        rw [hz2'] at hr2 hd1 ⊢
        have U2' := Lib.hid hu2; have R2 := Lib.hid hr2; have B2 := Lib.hid hb2; have K2 := Lib.hid hk2; have ZZ2 := Lib.hid hz2'
        have LL := Lib.hid (C.lists wc hu2.has.below hu2.has.pg (hu2.wh.chain (C.good hu2.has.pg)).1)
        clear hr2 hb2 hk2 hz2' hu2 U1 R1 B1' K1 HU HR HB HK m0 hz60 hct hc1 hc2 ZZ
        go_wp2_with fail
        refine LL.out.mono ?_; rintro e w6 ⟨hb, a1, k1, c1, a2, k2, c2, a3, k3, c3, rfl, ⟨s1, -, -, -⟩, ⟨s2, -, -, -⟩, ⟨s3, -, -, -⟩⟩
        have U6 := Lib.hid (U2'.out.grew hb); have R6 := Lib.hid (R2.out.grew hb); have B6 := Lib.hid (B2.out.grew hb)
        have K6 : Hid (k9 + 1 ≤ w6.heap.size) := Lib.hid (Nat.le_trans K2.out hb.size)
        have S6 := Lib.hid s1; have S7 := Lib.hid s2; have S8 := Lib.hid s3
        obtain ⟨md, hmd⟩ : ∃ k, S2.made = k := ⟨_, rfl⟩
        obtain ⟨us, hus⟩ : ∃ k, S2.used = k := ⟨_, rfl⟩
        have hadd : md = k1 + k2 + us := by rw [← hmd, ← hus, s1.len, s2.len]; exact U6.out.wh.add
        have huse : us = z2 + k3 := by rw [← hus, s3.len, ← ZZ2.out]; exact U6.out.wh.use
        have hmn : md ≤ n := by rw [← hmd, ← U6.out.n]; exact (C.good U6.out.has.pg).made
        have lF : S2.F.length ≤ 60 := by rw [← s1.len]; omega
        have lG : S2.G.length ≤ 60 := by rw [← s2.len]; omega
        have lP : P2.length ≤ 60 := by rw [← s3.len]; omega
        have lU : U2.length ≤ 60 := by rw [ZZ2.out]; omega
        have wA : IntKind.i64.wrap ((k1 : Int) + (k2 : Int)) = (k1 : Int) + (k2 : Int) := IntWalk.i64_in _ ⟨by omega, by omega⟩
        have wB : IntKind.i64.wrap ((k1 : Int) + (k2 : Int) + (us : Int)) = (k1 : Int) + (k2 : Int) + (us : Int) := IntWalk.i64_in _ ⟨by omega, by omega⟩
        have wC : IntKind.i64.wrap ((z2 : Int) + (k3 : Int)) = (z2 : Int) + (k3 : Int) := IntWalk.i64_in _ ⟨by omega, by omega⟩
        have tB : ((md : Int) != (k1 : Int) + (k2 : Int) + (us : Int)) = false := by rw [bne_eq_false_iff_eq]; omega
        have tC : ((us : Int) != (z2 : Int) + (k3 : Int)) = false := by rw [bne_eq_false_iff_eq]; omega
        have tD : decide ((n : Int) < (md : Int)) = false := decide_eq_false (by omega)
        have tD' : decide (n < md) = false := decide_eq_false (by omega)
        have MADE : Hid (∀ w', Below w6.heap.size w6 w' → Calls Try.prog 28 #[.pointer (some ⟨pp, 0, none⟩)] w' fun e w2 => e = .returned (.int .i64 (md : Int)) ∧ Below w6.heap.size w6 w2) := Lib.hid fun w' hb => by
          rw [← hmd]
          refine (has_made (U6.out.has.grew hb)).mono ?_
          rintro e w2 ⟨rfl, _, h⟩
          exact ⟨rfl, hb.trans (h.mono hb.size)⟩
        have USED : Hid (∀ w', Below w6.heap.size w6 w' → Calls Try.prog 27 #[.pointer (some ⟨pp, 0, none⟩)] w' fun e w2 => e = .returned (.int .i64 (us : Int)) ∧ Below w6.heap.size w6 w2) := Lib.hid fun w' hb => by
          rw [← hus]
          refine (has_used (U6.out.has.grew hb)).mono ?_
          rintro e w2 ⟨rfl, _, h⟩
          exact ⟨rfl, hb.trans (h.mono hb.size)⟩
        have f2 : w6.cell? ⟨k9, 2, none⟩ = some (.int .i64 (n : Int)) := B6.out.cell 2
        have HMN := Lib.hid hmn; have HMD := Lib.hid hmd
        have BB6 := Lib.hid (Below.refl w6.heap.size w6)
        clear hb hmd hus hadd huse hmn s1 s2 s3 LL
        go_wp2_with fail
        go_region_held3 (fun w' => w'.cell? ⟨k9, 2, none⟩ = some (.int .i64 (n : Int))) (first | go_keep | exact f2)
          (first
            | (go_at_call 28; (first | (with_reducible refine (MADE.out _ BB9.out).mono ?_) | (with_reducible refine (MADE.out _ BB9.out.drew).mono ?_)); rintro e x4 ⟨rfl, hb⟩; have BB10 := Lib.hid hb; have f2 : x4.cell? ⟨k9, 2, none⟩ = some (.int .i64 (n : Int)) := (B6.out.grew hb).cell 2; clear hb)
            | (go_at_call 27; (first | (with_reducible refine (USED.out _ BB8.out).mono ?_) | (with_reducible refine (USED.out _ BB8.out.drew).mono ?_)); rintro e x3 ⟨rfl, hb⟩; have BB9 := Lib.hid hb; have f2 : x3.cell? ⟨k9, 2, none⟩ = some (.int .i64 (n : Int)) := (B6.out.grew hb).cell 2; clear hb)
            | (go_at_call 27; (first | (with_reducible refine (USED.out _ BB7.out).mono ?_) | (with_reducible refine (USED.out _ BB7.out.drew).mono ?_)); rintro e x2 ⟨rfl, hb⟩; have BB8 := Lib.hid hb; have f2 : x2.cell? ⟨k9, 2, none⟩ = some (.int .i64 (n : Int)) := (B6.out.grew hb).cell 2; clear hb)
            | (go_at_call 28; (first | (with_reducible refine (MADE.out _ BB6.out).mono ?_) | (with_reducible refine (MADE.out _ BB6.out.drew).mono ?_)); rintro e x1 ⟨rfl, hb⟩; have BB7 := Lib.hid hb; have f2 : x1.cell? ⟨k9, 2, none⟩ = some (.int .i64 (n : Int)) := (B6.out.grew hb).cell 2; clear hb))
        obtain ⟨All, hAll⟩ : ∃ l, [] ++ S2.F ++ S2.G ++ P2 ++ U2 = l := ⟨_, rfl⟩
        obtain ⟨ka, hka⟩ : ∃ k, All.length = k := ⟨_, rfl⟩
        have hnd : All.Nodup := by
          rw [← hAll, List.nil_append, List.append_assoc, List.append_assoc]; exact U6.out.wh.nd
        have hblk : ∀ x ∈ All, IsBlk 1024 s n x := by
          intro x hx
          have g := C.good U6.out.has.pg
          have h1 : IsBlk S2.f S2.s S2.made x := by
            rw [← hAll, List.nil_append, List.mem_append, List.mem_append, List.mem_append] at hx
            rcases hx with ((hx | hx) | hx) | hx
            · exact g.inF x hx
            · exact g.inG x hx
            · exact U6.out.wh.inP x hx
            · exact U6.out.wh.inU x hx
          rw [U6.out.f, U6.out.s, HMD.out] at h1
          exact h1.mono HMN.out
        have ND := Lib.hid hnd; have BK := Lib.hid hblk; have HALL := Lib.hid hAll; have KA := Lib.hid hka
        have hmm := @run_makeMap Try.prog
        have BW : Hid (Below w6.heap.size w6 (x4.alloc (Obj.map #[] 0))) := Lib.hid (BB10.out.alloc BB10.out.size _)
        have SQ : Hid (∀ w', Below (x4.alloc (Obj.map #[] 0)).heap.size (x4.alloc (Obj.map #[] 0)) w' → Seq Elem.u64s w' (.slice a1 k1 c1) S2.F ∧ Seq Elem.u64s w' (.slice a2 k2 c2) S2.G ∧ Seq Elem.u64s w' (.slice a3 k3 c3) P2 ∧ Seq Elem.u64s w' (.slice av2 z2 cv2) U2) := Lib.hid fun w' hb => by
          have h := BW.out.trans (hb.mono BW.out.size)
          exact ⟨S6.out.upd (updFalse_of h) (fun _ _ => id), S7.out.upd (updFalse_of h) (fun _ _ => id), S8.out.upd (updFalse_of h) (fun _ _ => id), (R6.out.grew h).vec.seq⟩
        have hsw : (x4.alloc (Obj.map #[] 0)).heap.size = x4.heap.size + 1 := World.size_alloc ..
        have hkl : ka ≤ 240 := by rw [← hka, ← hAll]; simp only [List.length_append, List.length_nil]; omega
        have hzx : k9 + 1 ≤ x4.heap.size := Nat.le_trans K6.out BB10.out.size
        have NVU : Hid (∀ b, In (.slice av2 z2 cv2) b → b ≠ x4.heap.size) := Lib.hid (fun b hb => by have h1 := R6.out.vec.lt hb; have h2 := BB10.out.size; omega)
        have Q0 : Hid (Below (x4.alloc (Obj.map #[] 0)).heap.size (x4.alloc (Obj.map #[] 0)) ((x4.alloc (Obj.map #[] 0)).alloc (.cells #[] 22))) := Lib.hid ((Below.refl _ (x4.alloc (Obj.map #[] 0))).alloc (Nat.le_refl _) _)
        have V0' : Hid (Vec Elem.u64s ((x4.alloc (Obj.map #[] 0)).alloc (.cells #[] 22)) (.slice (some ⟨x4.heap.size + 1, 0, none⟩) 0 0) []) := Lib.hid (Vec.newAt (x4.alloc (Obj.map #[] 0)) _ _ hsw.symm)
        have N0' : Hid (∀ k, In (.slice (some ⟨x4.heap.size + 1, 0, none⟩) 0 0) k → (x4.alloc (Obj.map #[] 0)).heap.size ≤ k) := Lib.hid (fun k hk => by have := in_at hk; omega)
        have SW := Lib.hid hsw; have ZX := Lib.hid hzx; have KL := Lib.hid hkl
        clear hnd hblk hAll hka hsw hkl hzx BB7 BB8 BB9 BB10 MADE USED f2
        go_wp2_with (first
          | (at_builtin; refine wpList_append_vec (E := Elem.u64s) rfl (.tmp 150) (.tmp 151) 38 rfl 22 i0 (.int .u64 0) 8 Try.underlying38 hi hz0' hz1 hz2 rfl (.slice (some ⟨x4.heap.size + 1, 0, none⟩) 0 0) (.slice a1 k1 c1) ([]) S2.F rfl rfl V0'.out (SQ.out _ Q0.out).1 ?_ ?_ ?_; (simp [maxLen]; omega); (simp; omega); intro v1 y1 hv hu hin; have Q1 := Lib.hid (below_in Q0.out Q0.out.size N0'.out hu); have N1' : Hid (∀ k, In v1 k → (x4.alloc (Obj.map #[] 0)).heap.size ≤ k) := Lib.hid (fun k hk => by rcases hin k hk with x | x; exact N0'.out k x; exact Nat.le_trans Q0.out.size x); have V1' := Lib.hid hv; clear hv hu hin)
          | (at_builtin; refine wpList_append_vec (E := Elem.u64s) rfl (.tmp 152) (.tmp 153) 38 rfl 22 i0 (.int .u64 0) 8 Try.underlying38 hi hz0' hz1 hz2 rfl v1 (.slice a2 k2 c2) ([] ++ S2.F) S2.G rfl rfl V1'.out (SQ.out _ Q1.out).2.1 ?_ ?_ ?_; (simp [maxLen]; omega); (simp; omega); intro v2 y2 hv hu hin; have Q2 := Lib.hid (below_in Q1.out Q1.out.size N1'.out hu); have N2' : Hid (∀ k, In v2 k → (x4.alloc (Obj.map #[] 0)).heap.size ≤ k) := Lib.hid (fun k hk => by rcases hin k hk with x | x; exact N1'.out k x; exact Nat.le_trans Q1.out.size x); have V2' := Lib.hid hv; clear hv hu hin)
          | (at_builtin; refine wpList_append_vec (E := Elem.u64s) rfl (.tmp 154) (.tmp 155) 38 rfl 22 i0 (.int .u64 0) 8 Try.underlying38 hi hz0' hz1 hz2 rfl v2 (.slice a3 k3 c3) ([] ++ S2.F ++ S2.G) P2 rfl rfl V2'.out (SQ.out _ Q2.out).2.2.1 ?_ ?_ ?_; (simp [maxLen, List.length_append]; omega); (simp [List.length_append]; omega); intro v3 y3 hv hu hin; have Q3 := Lib.hid (below_in Q2.out Q2.out.size N2'.out hu); have N3' : Hid (∀ k, In v3 k → (x4.alloc (Obj.map #[] 0)).heap.size ≤ k) := Lib.hid (fun k hk => by rcases hin k hk with x | x; exact N2'.out k x; exact Nat.le_trans Q2.out.size x); have V3' := Lib.hid hv; clear hv hu hin)
          | (at_builtin; refine wpList_append_vec (E := Elem.u64s) rfl (.tmp 156) (.tmp 157) 38 rfl 22 i0 (.int .u64 0) 8 Try.underlying38 hi hz0' hz1 hz2 rfl v3 (.slice av2 z2 cv2) ([] ++ S2.F ++ S2.G ++ P2) U2 rfl rfl V3'.out (SQ.out _ Q3.out).2.2.2 ?_ ?_ ?_; (simp [maxLen, List.length_append]; omega); (simp [List.length_append]; omega); intro v4 y4 hv hu hin; have Q4 := Lib.hid (below_in Q3.out Q3.out.size N3'.out hu); rw [HALL.out] at hv; obtain ⟨a4, c4, rfl, hd3, hd4⟩ := hv.slice'; rw [KA.out] at hv hd3 hin ⊢; have N4' : Hid (∀ k, In (.slice a4 ka c4) k → (x4.alloc (Obj.map #[] 0)).heap.size ≤ k) := Lib.hid (fun k hk => by rcases hin k hk with x | x; exact N3'.out k x; exact Nat.le_trans Q3.out.size x); have V4' := Lib.hid hv; clear hv hu hin))
        clear hmm tB tC tD tD' wA wB wC
        have BY := Lib.hid (BW.out.trans (Q4.out.mono BW.out.size))
        go_loopw [160] (fun i wr => Looking w C pp p g O nb c s n (j + 1) k9 x4.heap.size U2 P2 L2 S2 (.slice av2 z2 cv2) (.slice a4 ka c4) All i wr) (fun i _ => ka - (intOf i).toNat)
        case atStart =>
          exact ⟨0, .map [], Nat.zero_le _, rfl, U6.out.grew BY.out, R6.out.grew BY.out, B6.out.grew BY.out, ⟨V4'.out, fun b hb => by have h1 := N4'.out b hb; have h2 := SW.out; omega⟩, ownsMap_upd (World.ownsMap_made _ _ _ _) (updFalse_of Q4.out) (fun h => h), metU_nil, Nat.le_trans K6.out BY.out.size⟩
        case round =>
          obtain ⟨q, D, hq, rfl, hu, hr, hb, hva, hmap, hmet, hk⟩ := hrel
          have U9 := Lib.hid hu; have R9 := Lib.hid hr; have B9 := Lib.hid hb; have VA := Lib.hid hva; have MAP := Lib.hid hmap; have MET := Lib.hid hmet; have K9 := Lib.hid hk
          clear hu hr hmap hmet hk
          by_cases hqk : q < ka
          · obtain ⟨x, hx⟩ : ∃ x, All[q]? = some x := ⟨All[q]'(by rw [KA.out]; exact hqk), List.getElem?_eq_getElem _⟩
            have hxA := List.mem_of_getElem? hx
            obtain ⟨ix, hix, ex⟩ := BK.out x hxA
            have hx0 := blk_u64 s256 n60 hix
            rw [← ex] at hx0
            have hci := code_index wr 1024 s (n : Int) x (by decide) (show s ≤ 18446744073709551615 by omega) ⟨by omega, by omega⟩ (show x ≤ 18446744073709551615 by omega)
            have hit := index_hit MAY.out (a := x) (i := ix) (by omega) ex
            rw [hit.1, hit.2] at hci
            have hnt : (All.take q).contains x = false := by
              rw [Bool.eq_false_iff]
              intro h
              have h1 := List.contains_iff_mem.1 h
              obtain ⟨hl, e⟩ := List.getElem?_eq_some_iff.1 hx
              have h2 : All = All.take q ++ x :: All.drop (q + 1) := by rw [← e, List.getElem_cons_drop, List.take_append_drop]
              have h3 := ND.out
              rw [h2] at h3
              exact (List.nodup_append.1 h3).2.2 x h1 x (List.mem_cons_self ..) rfl
            have hkey : keyOf Try.prog 22 (.int .u64 (x : Int)) = some (.int .u64 (x : Int)) := keyOf_int_mk (P := Try.prog) Try.underlying22 (by simp [Lit.wf, IntKind.min, IntKind.max, IntKind.signed, IntKind.bits]; omega)
            obtain ⟨b4, o4, rfl, _⟩ := VA.out.vec.seq.elem hx
            have d0 := VA.out.cell hx
            have f0 : wr.cell? ⟨k9, 0, none⟩ = some (.int .u64 1024) := hb.cell 0
            have f1 : wr.cell? ⟨k9, 1, none⟩ = some (.int .u64 (s : Int)) := hb.cell 1
            have f2 : wr.cell? ⟨k9, 2, none⟩ = some (.int .i64 (n : Int)) := hb.cell 2
            have t5 : decide ((q : Int) < (ka : Int)) = true := decide_eq_true (by omega)
            have q0 : (0 : Int) ≤ (q : Int) := by omega
            have q1 : (q : Int) < (ka : Int) := by omega
            have CI := Lib.hid hci; have HX := Lib.hid hx; have NT := Lib.hid hnt; have HKEY := Lib.hid hkey
            clear hci hx hxA hnt hkey hit ex hb hva
            go_wp2_with fail
            refine CI.out.mono ?_; rintro e w9 ⟨rfl, hb⟩
            have hm9 := ownsMap_upd MAP.out (updFalse_of hb) (fun h => h)
            have hl' : (Instr.lookup 59 (.map (some x4.heap.size)) (.int .u64 (x : Int)) false).run Try.prog w9 = .ok (.bool false) w9 := lookup_bool hm9 keyU Try.underlying59 Try.underlying4 (zeroBool _) HKEY.out (by rw [MET.out x, NT.out])
            have M9 := Lib.hid hm9
            have U10 := Lib.hid (U9.out.grew hb); have R10 := Lib.hid (R9.out.grew hb); have B10 := Lib.hid (B9.out.grew hb); have VA10 := Lib.hid (VA.out.grew hb)
            have K10 : Hid (k9 + 1 ≤ w9.heap.size) := Lib.hid (Nat.le_trans K9.out hb.size)
            clear hm9 hb f0 f1 f2 d0
            go_wp2_with (at_mapUpdate; refine wpList_mapUpdate_own _ rfl _ _ _ 59 rfl 22 4 keyU Try.underlying59 _ x4.heap.size q D rfl M9.out (by have := KL.out; unfold maxLen; omega) _ _ _ rfl rfl HKEY.out _ [] (plainElem_bool Try.underlying4 true) ?_; intro w11 hown1 hgrow1; have M11 := Lib.hid hown1; have U11 := Lib.hid (upd_grownBy hgrow1); clear hown1 hgrow1)
            have hj1 : (q : Int) + 1 = ((q + 1 : Nat) : Int) := by omega
            refine ⟨⟨q + 1, D.put (.int .u64 (x : Int)) (.lit (.bool true)), by rw [KA.out]; omega, by go_num, U10.out.upd U11.out (fun b (hb : b = x4.heap.size) => by rw [hb, NB9.out]; have := ZX.out; omega), R10.out.upd' U11.out (fun b hb (h : b = x4.heap.size) => NVU.out b hb h), B10.out.upd U11.out (fun (h : k9 = x4.heap.size) => by have := ZX.out; omega), VA10.out.upd' U11.out (fun b hb (h : b = x4.heap.size) => by have := VA.out.far b hb; omega), M11.out, ?_, Nat.le_trans K10.out U11.out.size⟩, by simp [intOf]; omega⟩
            rw [List.take_add_one, HX.out]
            exact MET.out.put MAP.out.isMap x
          · have t5 : decide ((q : Int) < (ka : Int)) = false := decide_eq_false (by omega)
            clear hb hva
            go_wp2_with fail
            exact ⟨⟨j + 1, U2, P2, L2, S2, by omega, by go_num, U9.out, R9.out, B9.out, K9.out⟩, by simp [intOf]; omega⟩
    · have t2 : decide ((j : Int) < (len : Int)) = false := decide_eq_false (by omega)
      clear hu
      go_wp2
      go_ret
      exact ⟨rfl, HU.out.has.below⟩
set_option maxRecDepth 100000 in
set_option maxHeartbeats 2000000 in
theorem walk_of (w : World) (C : PgC w) (sz : Int) (hsw : (Lit.int .u8 sz).wf = true) (nn : Int) (hnw : (Lit.int .u8 nn).wf = true) {a : Option Addr} {len cap : Nat} (F : Nat → Nat → Value) (h : Recs w (.slice a len cap) [.num .i64, .num .i64, .num .u64] len F) :
    Calls Try.prog 6 #[.int .u8 sz, .int .u8 nn, .slice a len cap] w fun e w' => e = .returned (.bool true) ∧ Below w.heap.size w w' := by
  obtain ⟨e1, hs1⟩ := u8_of hsw
  obtain ⟨A, hA⟩ : ∃ A, sz.toNat = A := ⟨_, rfl⟩
  rw [hA] at e1 hs1
  obtain ⟨e2, hs2⟩ := u8_of hnw
  obtain ⟨B, hB⟩ : ∃ B, nn.toNat = B := ⟨_, rfl⟩
  rw [hB] at e2 hs2
  subst e1 e2
  by_cases hl : len ≤ 100
  · exact walk_short w C A B hs1 hs2 F h hl
  have t0 : decide ((100 : Int) < (len : Int)) = true := decide_eq_true (by omega)
  clear h hl hsw hA hnw hB
  go_enter Try.func6, Try.ntmps6
  go_wp2_with fail
  refine (alive_any _ C).mono ?_; rintro e w1 ⟨rfl, hb⟩
  have B1 := Lib.hid hb
  clear hb
  go_wp2_with fail
  refine (made_any w C A B hs1 hs2 _ B1.out).mono ?_; rintro e w2 ⟨pp, p, g, O, nb, c, L0, rfl, hh, hl0, hnb⟩
  have H2 := Lib.hid hh
  clear hh hl0 hnb
  unfold runV
  go_wp2
  go_ret
  exact ⟨rfl, (H2.out.alloc _).below⟩
end Go.Proofs.Ytlnlipjnljbegaa.pageAdds
