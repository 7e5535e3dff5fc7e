/- The law PageLasts, walked. -/
import Derived.Test.YtlnlipjnljbegaaTold9
import Derived.Deep.CutBlock
import Derived.Deep.DeepCutAuto
namespace Go.Proofs.Ytlnlipjnljbegaa.pageLasts
open Go.RowKit Go.Maps ListMath PageMath GeoMath
set_option linter.unusedVariables false

/-- Behind so many acts: the page, the row of used blocks, the map of bytes, and each used block's bytes. -/
def LastsAt (w : World) (C : PgC w) (pp p g : Nat) (O : Nat → Prop) (nb : Nat) (c : Addr) (s n k9 bm T : Nat) (v : Value) (wx : World) : Prop :=
  ∃ (U P L : List Nat) (S : PG) (D : DataW Unit) (f : Nat → Nat), Us w C pp p g O nb c s n T U P L S wx ∧ Row v U (bm + 1) wx ∧ Blk wx k9 34 (runC 1024 s (n : Int)) ∧ wx.ownsMap Try.prog 22 (plainElem Try.prog 5) bm T D ∧ Told D U f ∧ Holds s U L f ∧ bm + 1 ≤ wx.heap.size
def Lasting (w : World) (C : PgC w) (pp p g : Nat) (O : Nat → Prop) (nb : Nat) (c : Addr) (s n k9 bm m : Nat) (v i : Value) (wr : World) : Prop :=
  ∃ j : Nat, j ≤ m ∧ i = .int .i64 (j : Int) ∧ LastsAt w C pp p g O nb c s n k9 bm j v wr
/-- The map is ranged over. -/
def Ranging (w : World) (C : PgC w) (pp p g : Nat) (O : Nat → Prop) (nb : Nat) (c : Addr) (s n k9 bm T r : Nat) (v : Value) (U P L : List Nat) (S : PG) (D : DataW Unit) (wr : World) : Prop :=
  ∃ (left : Lit → Bool) (cnt : Nat), wr.ranges Try.prog 22 (plainElem Try.prog 5) bm r T D left cnt ∧ Us w C pp p g O nb c s n T U P L S wr ∧ Row v U (bm + 1) wr ∧ Blk wr k9 34 (runC 1024 s (n : Int)) ∧ bm + 1 ≤ wr.heap.size
def AtByte (s : Nat) (w0 : World) (i : Value) (wr : World) : Prop := ∃ q : Nat, q ≤ s ∧ i = .int .i64 (q : Int) ∧ wr = w0
set_option maxRecDepth 100000 in
set_option maxHeartbeats 16000000 in
theorem walk_short (w : World) (C : PgC w) (A : Nat) (hs1 : A ≤ 255) {a : Option Addr} {len cap : Nat} (F : Nat → Nat → Value) (h : Recs w (.slice a len cap) [.num .i64, .num .i64, .num .u64] len F) (hl : len ≤ 100) :
    Calls Try.prog 5 #[.int .u8 (A : Int), .slice a len cap] w fun e w' => e = .returned (.bool true) ∧ Below w.heap.size w w' := by
  have HF := Lib.hid h
  have tm : decide ((100 : Int) < (len : Int)) = false := decide_eq_false (by omega)
  clear h
  obtain ⟨i0, hi, hz0, hz1, hz2⟩ := info_parts infoU64
  go_enter Try.func5, Try.ntmps5
  go_wp2_with fail
  refine (alive_any _ C).mono ?_; rintro e w1 ⟨rfl, hb⟩
  have B1 := Lib.hid hb
  clear hb
  go_wp2_with fail
  refine (made_any w C A 30 hs1 (by decide) _ B1.out).mono ?_; rintro e w2 ⟨pp, p, g, O, nb, c, L0, rfl, hh, hl0, hnb⟩
  have hsb := size_bd A
  have hnb2 := count_bd 30
  obtain ⟨s, hs⟩ : ∃ s, sizeN A = s := ⟨_, rfl⟩
  obtain ⟨n, hn⟩ : ∃ n, countN 30 = n := ⟨_, rfl⟩
  rw [hs] at hh hsb
  rw [hn] at hh hnb2
  rw [hs, hn]
  obtain ⟨s16, s256⟩ := hsb
  obtain ⟨n1, n60⟩ := hnb2
  have H2 : Hid (Us w C pp p g O nb c s n 0 [] [] L0 (newPG 1024 s n) w2) := Lib.hid ⟨hh, Wh.new _ _ _ _, rfl, rfl, rfl, Nat.le_refl _⟩
  have HNB := Lib.hid hnb
  clear hh hl0 hnb hs hn
  unfold runV
  have b9 := Blk.new w2 34 #[.int .u64 1024, .int .u64 (s : Int), .int .i64 (n : Int)]
  have h3 := H2.out.alloc (.cells #[.int .u64 1024, .int .u64 (s : Int), .int .i64 (n : Int)] 34)
  obtain ⟨w3, hw3⟩ : ∃ x, w2.alloc (.cells #[.int .u64 1024, .int .u64 (s : Int), .int .i64 (n : Int)] 34) = x := ⟨_, rfl⟩
  have s3 : w3.heap.size = w2.heap.size + 1 := by rw [← hw3]; simp
  rw [hw3] at b9 h3
  obtain ⟨k9, hk9⟩ : ∃ k, w2.heap.size = k := ⟨_, rfl⟩
  rw [hk9] at b9
  obtain ⟨bm, hbm⟩ : ∃ k, w3.heap.size = k := ⟨_, rfl⟩
  have hmp : (w3.alloc (.map #[] 0)).ownsMap Try.prog 22 (plainElem (H := Unit) Try.prog 5) bm 0 (.map []) := by rw [← hbm]; exact World.ownsMap_made _ _ _ _
  have hkm : k9 < bm := by omega
  have I0 : Hid (Lasting w C pp p g O nb c s n k9 bm len (.slice none 0 0) (.int .i64 0) (w3.alloc (.map #[] 0))) := Lib.hid ⟨0, Nat.zero_le _, rfl, [], [], L0, _, .map [], fun _ => 0, h3.alloc _, Row.nil _ _, b9.alloc _, hmp, told_nil, holds_nil _ _ _, by rw [World.size_alloc]; omega⟩
  have hnb9 : nb = k9 := by rw [HNB.out, hk9]
  have NB9 := Lib.hid hnb9
  have hmm := @run_makeMap Try.prog
  clear h3 b9 s3 hnb9 hmp
  go_wp2_with fail
  clear hw3 hk9 hmm hbm
  go_loopw [10, 51] (fun v i wr => Lasting w C pp p g O nb c s n k9 bm len v i wr) (fun _ i _ => len - (intOf i).toNat)
  case atStart => exact I0.out
  case round =>
    clear I0
    obtain ⟨j, hj, rfl, U, P, L, S, D, f, hu, hr, hb, hmap, htold, hholds, hk⟩ := hrel
    obtain ⟨av, cv, rfl, hc1, hc2⟩ := hr.slice
    obtain ⟨z, hz⟩ : ∃ z, U.length = z := ⟨_, rfl⟩
    rw [hz] at hr hc1 ⊢
    have HU := Lib.hid hu; have HR := Lib.hid hr; have HB := Lib.hid hb; have HK := Lib.hid hk; have ZZ := Lib.hid hz; have HM := Lib.hid hmap; have HT := Lib.hid htold; have HH := Lib.hid hholds
    clear hr hb hk hz hmap htold hholds
    by_cases hjl : j < len
    · obtain ⟨b2, off2, kd, wh, X, ea, hact, hkd, hwh, hX⟩ := act9 HF.out hjl
      obtain ⟨x0, x1, x2⟩ := hact wr hu.has.below
      subst ea
      have t2 : decide ((j : Int) < (len : Int)) = true := decide_eq_true (by omega)
      have q3 : (0 : Int) ≤ (j : Int) := by omega
      have q4 : (j : Int) < (len : Int) := by omega
      clear hact hu
      have bA := Blk.new wr 42 #[.int .i64 kd, .int .i64 wh, .int .u64 (X : Int)]
      obtain ⟨W1, hW1⟩ : ∃ x, wr.alloc (.cells #[.int .i64 kd, .int .i64 wh, .int .u64 (X : Int)] 42) = x := ⟨_, rfl⟩
      obtain ⟨bc, hbc⟩ : ∃ b, wr.heap.size = b := ⟨_, rfl⟩
      have hs1 : W1.heap.size = wr.heap.size + 1 := by rw [← hW1]; simp
      rw [hW1, hbc] at bA
      have m0 : W1.cell? ⟨bc, 0, none⟩ = some (.int .i64 kd) := bA.cell 0
      have m1 : W1.cell? ⟨bc, 1, none⟩ = some (.int .i64 wh) := bA.cell 1
      have hgr : Below wr.heap.size wr W1 := by rw [← hW1]; exact (Below.refl _ wr).alloc (Nat.le_refl _) _
      have U1 := Lib.hid (HU.out.grew hgr); have R1 := Lib.hid (HR.out.grew hgr); have BK1 := Lib.hid (HB.out.grew hgr); have M1 := Lib.hid (ownsMap_upd HM.out (updFalse_of hgr) id)
      have K1 : Hid (bm + 1 ≤ W1.heap.size) := Lib.hid (Nat.le_trans HK.out hgr.size)
      have hz60 : z ≤ 60 := by
        have h1 := HU.out.wh.use; have h2 := HU.out.wh.add; have h3 := (C.good HU.out.has.pg).made; have h4 := HU.out.n; have h5 := ZZ.out
        omega
      have hct : S.ct ≤ 100 := by have := HU.out.ct; omega
      have hOb : ∀ b, O b → b < bm := fun b hb => by have h1 := HU.out.has.hi b hb; rw [NB9.out] at h1; omega
      have OB := Lib.hid (fun b hb => Nat.lt_succ_of_lt (hOb b hb)); have OM : Hid (¬ O bm) := Lib.hid (fun h => Nat.lt_irrefl _ (hOb _ h))
      have BA := Lib.hid bA
      have hbcm : bm < bc := by have := HK.out; omega
      clear bA hgr hs1 hOb
      go_upto_block 2 with fail
      clear hW1 hbc x0 x1 x2
      go_cut [10] (fun v wx => LastsAt w C pp p g O nb c s n k9 bm (j + 1) v wx)
      case first =>
        by_cases h4 : kd = 4
        · subst h4
          go_wp2_with fail
          refine (us_gather2 U1.out).mono ?_; rintro e w6 ⟨L6, S6, rfl, hh, hu, hsm⟩
          have r6 := R1.out.upd hu OB.out
          have b6 := U1.out.has.blk hu BK1.out (by rw [NB9.out]; exact Nat.le_refl _)
          have M6 : Hid (LastsAt w C pp p g O nb c s n k9 bm (j + 1) (.slice av z cv) w6) := Lib.hid ⟨_, _, _, _, D, f, hh, r6, b6, (ownsMap_upd M1.out hu OM.out).mono (Nat.le_succ _), HT.out, HH.out.same hsm, Nat.le_trans K1.out hu.size⟩
          clear hh hu r6 b6 hsm
          go_wp2_with fail
          go_meet
          exact M6.out
        · have k4 : (kd == (4 : Int)) = false := by rw [beq_eq_false_iff_ne]; exact h4
          have MU : Hid (∀ (U2 P2 L2 : List Nat) (S2 : PG) (w2 : World), Us w C pp p g O nb c s n j U2 P2 L2 S2 w2 → Us w C pp p g O nb c s n (j + 1) U2 P2 L2 S2 w2) := Lib.hid fun U2 P2 L2 S2 w2 h => ⟨h.has, h.wh, h.f, h.s, h.n, Nat.le_succ_of_le h.ct⟩
          have hkind : (kd = 1 ∧ 0 < z) ∨ (kd ≠ 1 ∧ 1 ≤ kd ∧ kd ≤ 3 ∧ 0 < z) ∨ (1 ≤ kd ∧ kd ≤ 3 ∧ z = 0) ∨ kd = 0 ∨ kd < 0 ∨ 4 < kd := by omega
          rcases hkind with ⟨hk1, hzp⟩ | ⟨hk1, hk2, hk3, hzp⟩ | ⟨hk1, hk2, hze⟩ | h0 | hk | hk
          · have k1 : (kd == (1 : Int)) = true := by rw [beq_iff_eq]; exact hk1
            have e1 : decide ((1 : Int) ≤ kd) = true := decide_eq_true (by omega)
            have e3 : decide (kd ≤ (3 : Int)) = true := decide_eq_true (by omega)
            have z1 : decide ((0 : Int) < (z : Int)) = true := decide_eq_true (by omega)
            have z1' : decide (0 < z) = true := decide_eq_true (by omega)
            have zp : (0 : Int) < (z : Int) := by omega
            have zne : ¬ (z : Int) = 0 := by omega
            obtain ⟨Rm, hRm⟩ : ∃ R, Int.tmod wh (z : Int) = R := ⟨_, rfl⟩
            have hRz : Rm < (z : Int) := by rw [← hRm]; exact Int.tmod_lt_of_pos _ zp
            obtain ⟨q, hq⟩ : ∃ q : Nat, (if Rm > 0 then Rm else 0) = (q : Int) := by
              by_cases h : Rm > 0
              · exact ⟨Rm.toNat, by rw [if_pos h]; omega⟩
              · exact ⟨0, by rw [if_neg h]; rfl⟩
            have hqz : q < z := by
              by_cases h : Rm > 0
              · rw [if_pos h] at hq; omega
              · rw [if_neg h] at hq; omega
            have hmax : ∀ w, (Builtin.max_ #[3, 3] 3 #[.int .i64 0, .int .i64 Rm]).run Try.prog w = .ok (.int .i64 (q : Int)) w := fun w => by rw [run_max_int2, hq]
            obtain ⟨x, hx⟩ : ∃ x, U[q]? = some x := ⟨U[q]'(by rw [ZZ.out]; omega), List.getElem?_eq_getElem _⟩
            have hxU := List.mem_of_getElem? hx
            have hperm := drop_perm hx
            have hfit := HU.out.wh.fits (C.good HU.out.has.pg) hxU
            have hbig := (C.good HU.out.has.pg).big
            have hkey := keyN_of (x := x) (by omega)
            obtain ⟨bv, ov, rfl, _⟩ := R1.out.vec.seq.elem hx
            have y0 := R1.out.cell hx
            have q0 : (0 : Int) ≤ (q : Int) := by omega
            have q1 : (q : Int) < (z : Int) := by omega
            obtain ⟨Rest, hRest⟩ : ∃ l, U.take q ++ U.drop (q + 1) = l := ⟨_, rfl⟩
            rw [hRest] at hperm
            have hnr : x ∉ Rest := (List.nodup_cons.1 (hperm.nodup_iff.1 HU.out.wh.ndU.1)).1
            have hsub : ∀ u ∈ Rest, u ∈ U := fun u hu => hperm.mem_iff.2 (List.mem_cons_of_mem _ hu)
            have htd := (HT.out.perm hperm).del hnr
            have hhd := HH.out.less hsub
            have TD := Lib.hid htd; have HD := Lib.hid hhd; have HX := Lib.hid hx; have HP := Lib.hid hperm; have KY := Lib.hid hkey; have HRest := Lib.hid hRest
            have hv1 : z ≤ cv := hc1
            clear hq hx hxU hfit hbig hkey hperm hnr hsub htd hhd hRest
            go_wp2_with fail
            clear hRm hmax y0 zne
            obtain ⟨sv1, hs1, hi1, hq1⟩ := cut_to (E := Elem.u64s) (P := Try.prog) 38 Try.underlying38 sizeU (some ⟨bv, ov, none⟩) z cv q (by omega)
            obtain ⟨sv2, hs2, hi2, hq2, _⟩ := cut_from (E := Elem.u64s) (P := Try.prog) 38 Try.underlying38 sizeU (some ⟨bv, ov, none⟩) z cv (q + 1) (by omega) hv1
            rw [show ((q + 1 : Nat) : Int) = (q : Int) + 1 by omega] at hs2
            have hwq : IntKind.i64.wrap ((q : Int) + 1) = (q : Int) + 1 := IntWalk.i64_in _ ⟨by omega, by omega⟩
            have len1 : (U.take q).length ≤ 200 := by rw [List.length_take, ZZ.out]; omega
            have len2 : (U.drop (q + 1)).length ≤ 200 := by rw [List.length_drop, ZZ.out]; omega
            have SQ : Hid (∀ w', Below W1.heap.size W1 w' → Seq Elem.u64s w' sv1 (U.take q) ∧ Seq Elem.u64s w' sv2 (U.drop (q + 1))) :=
              Lib.hid fun w' hb => by
                have qs := (R1.out.grew hb).vec.seq
                exact ⟨hq1 _ _ qs (by omega), hq2 _ _ qs⟩
            clear hi1 hq1 hi2 hq2
            go_region_law (first
              | (refine step_append_vec (E := Elem.u64s) rfl (.tmp 91) (.tmp 94) 38 rfl 22 i0 (.int .u64 0) 8 Try.underlying38 hi hz0 hz1 hz2 rfl (.slice (some ⟨W1.heap.size, 0, none⟩) 0 0) sv1 [] (U.take q) ?_ ?_ ?_ ?_ ?_ ?_ ?_
                 · go_simp
                 · go_simp
                 · first | exact Vec.newAt W1 _ _ rfl | exact (Vec.newAt W1 _ _ rfl).drew | exact Vec.newAt W1.drew _ _ rfl
                 · first | exact (SQ.out _ ((Below.refl _ W1).alloc (Nat.le_refl _) _)).1 | exact (SQ.out _ ((Below.refl _ W1).alloc (Nat.le_refl _) _).drew).1 | exact (SQ.out _ ((Below.refl _ W1).drew.alloc (Nat.le_refl _) _)).1
                 · simp only [maxLen, List.length_nil]; omega
                 · simp only [List.length_nil]; omega
                 intro v1 x1 hv1' hu1' hin1'
                 have B1' : Hid (Below W1.heap.size W1 x1) := Lib.hid (by
                   refine Below.trans ?_ (hu1'.below (B := W1.heap.size) (fun k hk => by have := in_at hk; omega) ?_)
                   · first | exact (Below.refl _ W1).alloc (Nat.le_refl _) _ | exact ((Below.refl _ W1).alloc (Nat.le_refl _) _).drew | exact (Below.refl _ W1).drew.alloc (Nat.le_refl _) _
                   · first | exact ((Below.refl _ W1).alloc (Nat.le_refl _) _).size | exact ((Below.refl _ W1).drew.alloc (Nat.le_refl _) _).size)
                 have N1' : Hid (∀ k, In v1 k → W1.heap.size ≤ k) := Lib.hid (fun k hk => by rcases hin1' k hk with x | x; (have := in_at x; omega); (simp at x; omega))
                 have V1' := Lib.hid hv1'
                 clear hv1' hu1' hin1')
              | (refine step_append_vec (E := Elem.u64s) rfl (.tmp 95) (.tmp 99) 38 rfl 22 i0 (.int .u64 0) 8 Try.underlying38 hi hz0 hz1 hz2 rfl v1 sv2 ([] ++ U.take q) (U.drop (q + 1)) ?_ ?_ V1'.out (SQ.out _ B1'.out).2 ?_ ?_ ?_
                 · go_simp
                 · go_simp
                 · simp only [maxLen, List.nil_append]; omega
                 · simp only [List.nil_append]; omega
                 intro v2 x2 hv2' hu2' hin2'
                 have B2' := Lib.hid (below_in B1'.out B1'.out.size N1'.out hu2')
                 have V2' := Lib.hid hv2'
                 have N2' : Hid (∀ k, In v2 k → W1.heap.size ≤ k) := Lib.hid (fun k hk => by rcases hin2' k hk with x | x; exact N1'.out k x; exact Nat.le_trans B1'.out.size x)
                 clear hv2' hu2' hin2'))
            all_goals
              clear hs1 hs2 hwq
              have m0 : x2.cell? ⟨bc, 0, none⟩ = some (.int .i64 kd) := (BA.out.grew B2'.out).cell 0
              have mp2 := ownsMap_upd M1.out (updFalse_of B2'.out) id
              have U2 := Lib.hid (U1.out.grew B2'.out); have B2x := Lib.hid (BK1.out.grew B2'.out); have M2 := Lib.hid mp2
              have R2 : Hid (Row v2 Rest (bm + 1) x2) := Lib.hid ⟨by have := V2'.out; rwa [List.nil_append, HRest.out] at this, fun b hb => Nat.le_trans K1.out (N2'.out b hb)⟩
              have K2 : Hid (bm + 1 ≤ x2.heap.size) := Lib.hid (Nat.le_trans K1.out B2'.out.size)
              have BA2 := Lib.hid (BA.out.grew B2'.out)
              clear mp2
              go_wp2_with (at_delete; refine wpList_delete_own _ rfl _ _ 61 22 rfl 5 keyU Try.underlying61 _ bm j D rfl M2.out _ _ rfl KY.out ?_; intro w4 hown4 hturn4; have hup4 := upd_grownBy hturn4.grown; have m0 : w4.cell? ⟨bc, 0, none⟩ = some (.int .i64 kd) := (BA2.out.upd hup4 (fun (e : bc = bm) => by omega)).cell 0; have U4 := Lib.hid (U2.out.upd hup4 (fun b (e : b = bm) => by rw [e, NB9.out]; omega)); have R4 := Lib.hid (R2.out.upd hup4 (fun b (e : b = bm) => by rw [e]; exact Nat.lt_succ_self _)); have B4 := Lib.hid (B2x.out.upd hup4 (fun (e : k9 = bm) => by omega)); have M4 := Lib.hid hown4; have K4 : Hid (bm + 1 ≤ w4.heap.size) := Lib.hid (Nat.le_trans K2.out hup4.size); clear hown4 hturn4 hup4)
              refine (us_free2 (U4.out.alloc (.cells #[.int .u64 (x : Int)] 22)) HP.out (u64_oneAt w4 22 x _ rfl) (by have h1 := U4.out.has.size; exact h1)).mono ?_
              rintro e w6 ⟨L6, S6, rfl, hh, hu, hsm⟩
              have r6 := (R4.out.alloc (.cells #[.int .u64 (x : Int)] 22)).upd hu OB.out
              have b6 := (U4.out.alloc (.cells #[.int .u64 (x : Int)] 22)).has.blk hu (B4.out.alloc _) (by rw [NB9.out]; exact Nat.le_refl _)
              have M6 : Hid (LastsAt w C pp p g O nb c s n k9 bm (j + 1) v2 w6) := Lib.hid ⟨_, _, _, _, _, f, MU.out _ _ _ _ _ hh, r6, b6, (ownsMap_upd (M4.out.alloc _) hu OM.out).mono (Nat.le_succ _), TD.out, HD.out.same hsm, by have h1 := hu.size; rw [World.size_alloc] at h1; have h2 := K4.out; omega⟩
              clear hh hu r6 b6 hsm
              go_wp2_with fail
              go_meet
              exact M6.out
          · have k1 : (kd == (1 : Int)) = false := by rw [beq_eq_false_iff_ne]; exact hk1
            have e1 : decide ((1 : Int) ≤ kd) = true := decide_eq_true (by omega)
            have e3 : decide (kd ≤ (3 : Int)) = true := decide_eq_true (by omega)
            have z1 : decide ((0 : Int) < (z : Int)) = true := decide_eq_true (by omega)
            have z1' : decide (0 < z) = true := decide_eq_true (by omega)
            have zp : (0 : Int) < (z : Int) := by omega
            have zne : ¬ (z : Int) = 0 := by omega
            obtain ⟨Rm, hRm⟩ : ∃ R, Int.tmod wh (z : Int) = R := ⟨_, rfl⟩
            have hRz : Rm < (z : Int) := by rw [← hRm]; exact Int.tmod_lt_of_pos _ zp
            obtain ⟨q, hq⟩ : ∃ q : Nat, (if Rm > 0 then Rm else 0) = (q : Int) := by
              by_cases h : Rm > 0
              · exact ⟨Rm.toNat, by rw [if_pos h]; omega⟩
              · exact ⟨0, by rw [if_neg h]; rfl⟩
            have hqz : q < z := by
              by_cases h : Rm > 0
              · rw [if_pos h] at hq; omega
              · rw [if_neg h] at hq; omega
            have hmax : ∀ w, (Builtin.max_ #[3, 3] 3 #[.int .i64 0, .int .i64 Rm]).run Try.prog w = .ok (.int .i64 (q : Int)) w := fun w => by rw [run_max_int2, hq]
            obtain ⟨x, hx⟩ : ∃ x, U[q]? = some x := ⟨U[q]'(by rw [ZZ.out]; omega), List.getElem?_eq_getElem _⟩
            have hxU := List.mem_of_getElem? hx
            have hperm := drop_perm hx
            have hfit := HU.out.wh.fits (C.good HU.out.has.pg) hxU
            have hbig := (C.good HU.out.has.pg).big
            have hkey := keyN_of (x := x) (by omega)
            obtain ⟨bv, ov, rfl, _⟩ := R1.out.vec.seq.elem hx
            have y0 := R1.out.cell hx
            have q0 : (0 : Int) ≤ (q : Int) := by omega
            have q1 : (q : Int) < (z : Int) := by omega
            obtain ⟨Rest, hRest⟩ : ∃ l, U.take q ++ U.drop (q + 1) = l := ⟨_, rfl⟩
            rw [hRest] at hperm
            have hnr : x ∉ Rest := (List.nodup_cons.1 (hperm.nodup_iff.1 HU.out.wh.ndU.1)).1
            have hsub : ∀ u ∈ Rest, u ∈ U := fun u hu => hperm.mem_iff.2 (List.mem_cons_of_mem _ hu)
            have htd := (HT.out.perm hperm).del hnr
            have hhd := HH.out.less hsub
            have TD := Lib.hid htd; have HD := Lib.hid hhd; have HX := Lib.hid hx; have HP := Lib.hid hperm; have KY := Lib.hid hkey; have HRest := Lib.hid hRest
            have hv1 : z ≤ cv := hc1
            clear hq hx hxU hfit hbig hkey hperm hnr hsub htd hhd hRest
            go_wp2_with fail
            clear hRm hmax y0 zne
            obtain ⟨sv1, hs1, hi1, hq1⟩ := cut_to (E := Elem.u64s) (P := Try.prog) 38 Try.underlying38 sizeU (some ⟨bv, ov, none⟩) z cv q (by omega)
            obtain ⟨sv2, hs2, hi2, hq2, _⟩ := cut_from (E := Elem.u64s) (P := Try.prog) 38 Try.underlying38 sizeU (some ⟨bv, ov, none⟩) z cv (q + 1) (by omega) hv1
            rw [show ((q + 1 : Nat) : Int) = (q : Int) + 1 by omega] at hs2
            have hwq : IntKind.i64.wrap ((q : Int) + 1) = (q : Int) + 1 := IntWalk.i64_in _ ⟨by omega, by omega⟩
            have len1 : (U.take q).length ≤ 200 := by rw [List.length_take, ZZ.out]; omega
            have len2 : (U.drop (q + 1)).length ≤ 200 := by rw [List.length_drop, ZZ.out]; omega
            have SQ : Hid (∀ w', Below W1.heap.size W1 w' → Seq Elem.u64s w' sv1 (U.take q) ∧ Seq Elem.u64s w' sv2 (U.drop (q + 1))) :=
              Lib.hid fun w' hb => by
                have qs := (R1.out.grew hb).vec.seq
                exact ⟨hq1 _ _ qs (by omega), hq2 _ _ qs⟩
            clear hi1 hq1 hi2 hq2
            go_region_law (first
              | (refine step_append_vec (E := Elem.u64s) rfl (.tmp 91) (.tmp 94) 38 rfl 22 i0 (.int .u64 0) 8 Try.underlying38 hi hz0 hz1 hz2 rfl (.slice (some ⟨W1.heap.size, 0, none⟩) 0 0) sv1 [] (U.take q) ?_ ?_ ?_ ?_ ?_ ?_ ?_
                 · go_simp
                 · go_simp
                 · first | exact Vec.newAt W1 _ _ rfl | exact (Vec.newAt W1 _ _ rfl).drew | exact Vec.newAt W1.drew _ _ rfl
                 · first | exact (SQ.out _ ((Below.refl _ W1).alloc (Nat.le_refl _) _)).1 | exact (SQ.out _ ((Below.refl _ W1).alloc (Nat.le_refl _) _).drew).1 | exact (SQ.out _ ((Below.refl _ W1).drew.alloc (Nat.le_refl _) _)).1
                 · simp only [maxLen, List.length_nil]; omega
                 · simp only [List.length_nil]; omega
                 intro v1 x1 hv1' hu1' hin1'
                 have B1' : Hid (Below W1.heap.size W1 x1) := Lib.hid (by
                   refine Below.trans ?_ (hu1'.below (B := W1.heap.size) (fun k hk => by have := in_at hk; omega) ?_)
                   · first | exact (Below.refl _ W1).alloc (Nat.le_refl _) _ | exact ((Below.refl _ W1).alloc (Nat.le_refl _) _).drew | exact (Below.refl _ W1).drew.alloc (Nat.le_refl _) _
                   · first | exact ((Below.refl _ W1).alloc (Nat.le_refl _) _).size | exact ((Below.refl _ W1).drew.alloc (Nat.le_refl _) _).size)
                 have N1' : Hid (∀ k, In v1 k → W1.heap.size ≤ k) := Lib.hid (fun k hk => by rcases hin1' k hk with x | x; (have := in_at x; omega); (simp at x; omega))
                 have V1' := Lib.hid hv1'
                 clear hv1' hu1' hin1')
              | (refine step_append_vec (E := Elem.u64s) rfl (.tmp 95) (.tmp 99) 38 rfl 22 i0 (.int .u64 0) 8 Try.underlying38 hi hz0 hz1 hz2 rfl v1 sv2 ([] ++ U.take q) (U.drop (q + 1)) ?_ ?_ V1'.out (SQ.out _ B1'.out).2 ?_ ?_ ?_
                 · go_simp
                 · go_simp
                 · simp only [maxLen, List.nil_append]; omega
                 · simp only [List.nil_append]; omega
                 intro v2 x2 hv2' hu2' hin2'
                 have B2' := Lib.hid (below_in B1'.out B1'.out.size N1'.out hu2')
                 have V2' := Lib.hid hv2'
                 have N2' : Hid (∀ k, In v2 k → W1.heap.size ≤ k) := Lib.hid (fun k hk => by rcases hin2' k hk with x | x; exact N1'.out k x; exact Nat.le_trans B1'.out.size x)
                 clear hv2' hu2' hin2'))
            all_goals
              clear hs1 hs2 hwq
              have m0 : x2.cell? ⟨bc, 0, none⟩ = some (.int .i64 kd) := (BA.out.grew B2'.out).cell 0
              have mp2 := ownsMap_upd M1.out (updFalse_of B2'.out) id
              have U2 := Lib.hid (U1.out.grew B2'.out); have B2x := Lib.hid (BK1.out.grew B2'.out); have M2 := Lib.hid mp2
              have R2 : Hid (Row v2 Rest (bm + 1) x2) := Lib.hid ⟨by have := V2'.out; rwa [List.nil_append, HRest.out] at this, fun b hb => Nat.le_trans K1.out (N2'.out b hb)⟩
              have K2 : Hid (bm + 1 ≤ x2.heap.size) := Lib.hid (Nat.le_trans K1.out B2'.out.size)
              have BA2 := Lib.hid (BA.out.grew B2'.out)
              clear mp2
              go_wp2_with (at_delete; refine wpList_delete_own _ rfl _ _ 61 22 rfl 5 keyU Try.underlying61 _ bm j D rfl M2.out _ _ rfl KY.out ?_; intro w4 hown4 hturn4; have hup4 := upd_grownBy hturn4.grown; have m0 : w4.cell? ⟨bc, 0, none⟩ = some (.int .i64 kd) := (BA2.out.upd hup4 (fun (e : bc = bm) => by omega)).cell 0; have U4 := Lib.hid (U2.out.upd hup4 (fun b (e : b = bm) => by rw [e, NB9.out]; omega)); have R4 := Lib.hid (R2.out.upd hup4 (fun b (e : b = bm) => by rw [e]; exact Nat.lt_succ_self _)); have B4 := Lib.hid (B2x.out.upd hup4 (fun (e : k9 = bm) => by omega)); have M4 := Lib.hid hown4; have K4 : Hid (bm + 1 ≤ w4.heap.size) := Lib.hid (Nat.le_trans K2.out hup4.size); clear hown4 hturn4 hup4)
              refine (has_cell U4.out.has).mono ?_; rintro e w5 ⟨rfl, _, hb⟩
              have U5 := Lib.hid (U4.out.grew hb); have R5 := Lib.hid (R4.out.grew hb); have B5 := Lib.hid (B4.out.grew hb); have M5 := Lib.hid (ownsMap_upd M4.out (updFalse_of hb) id)
              have K5 : Hid (bm + 1 ≤ w5.heap.size) := Lib.hid (Nat.le_trans K4.out hb.size)
              clear hb
              go_wp2_with fail
              refine (us_load U5.out).mono ?_; rintro e w7 ⟨rfl, hh, hu⟩
              have U7 := Lib.hid hh; have R7 := Lib.hid (R5.out.upd hu OB.out); have B7 := Lib.hid (U5.out.has.blk hu B5.out (by rw [NB9.out]; exact Nat.le_refl _)); have M7 := Lib.hid (ownsMap_upd M5.out hu OM.out)
              have K7 : Hid (bm + 1 ≤ w7.heap.size) := Lib.hid (Nat.le_trans K5.out hu.size)
              clear hh hu
              go_wp2_with fail
              refine (us_post U7.out HP.out (show S.asked.ct ≤ _ by show S.ct ≤ _; omega)).mono ?_; rintro e w8 ⟨rfl, hh, hu⟩
              have r8 := R7.out.upd hu OB.out
              have b8 := U7.out.has.blk hu B7.out (by rw [NB9.out]; exact Nat.le_refl _)
              have M8 : Hid (LastsAt w C pp p g O nb c s n k9 bm (j + 1) v2 w8) := Lib.hid ⟨_, _, _, _, _, f, hh, r8, b8, (ownsMap_upd M7.out hu OM.out).mono (Nat.le_succ _), TD.out, HD.out.same (us_post_same U7.out HP.out), Nat.le_trans K7.out hu.size⟩
              clear hh hu r8 b8
              go_wp2_with fail
              go_meet
              exact M8.out
          · have e1 : decide ((1 : Int) ≤ kd) = true := decide_eq_true (by omega)
            have e3 : decide (kd ≤ (3 : Int)) = true := decide_eq_true (by omega)
            have z1 : decide ((0 : Int) < (z : Int)) = false := decide_eq_false (by omega)
            have z1' : decide (0 < z) = false := decide_eq_false (by omega)
            have e0 : (kd == (0 : Int)) = false := by rw [beq_eq_false_iff_ne]; omega
            clear hze hk1 hk2
            go_wp2_with fail
            go_meet
            exact ⟨_, _, _, _, D, f, MU.out _ _ _ _ _ U1.out, R1.out, BK1.out, M1.out.mono (Nat.le_succ _), HT.out, HH.out, K1.out⟩
          · have e1 : decide ((1 : Int) ≤ kd) = false := decide_eq_false (by omega)
            have e0 : (kd == (0 : Int)) = true := by rw [beq_iff_eq]; exact h0
            clear h0
            go_wp2_with fail
            refine (us_alloc2 U1.out).mono ?_; rintro e w6 ⟨L6, S6, hsm, ⟨x6, rfl, hx6, hbig, hblk, hnx6, hh, hu⟩ | ⟨rfl, hh, hu⟩⟩
            · have r6 := R1.out.upd hu OB.out
              have b6 := U1.out.has.blk hu BK1.out (by rw [NB9.out]; exact Nat.le_refl _)
              have m6 := ownsMap_upd M1.out hu OM.out
              have hh6 := HH.out.same hsm
              have f1 : w6.cell? ⟨k9, 1, none⟩ = some (.int .u64 (s : Int)) := b6.cell 1
              have hkey := keyN_of (x := x6) (by omega)
              have hhas : Maps.has D (keyN x6) = false := by rw [HT.out.has x6, decide_eq_false_iff_not]; exact hnx6
              have w8 : IntKind.u8.wrap (j : Int) = (j : Int) := by simp [IntKind.wrap, IntKind.bits, IntKind.signed]; omega
              have U6 := Lib.hid hh; have R6 := Lib.hid r6; have B6 := Lib.hid b6; have M6 := Lib.hid m6; have HH6 := Lib.hid hh6; have KY := Lib.hid hkey; have NX := Lib.hid hnx6
              have K6 : Hid (bm + 1 ≤ w6.heap.size) := Lib.hid (Nat.le_trans K1.out hu.size)
              clear hh hu r6 b6 m6 hh6 hsm hblk hnx6 hkey hbig
              go_wp2_with (at_lookup; refine wpList_lookup_own_ok_int _ rfl _ _ 61 rfl 22 5 .u8 keyU Try.underlying61 Try.underlying5 (zeroU8 _) bm j D rfl M6.out _ _ rfl KY.out ?_; intro c8 hat8 hwc8; rw [hhas]; clear hat8 hwc8)
              have hr1 : Reads8 (w6.alloc (.cells #[.int .u8 (j : Int)] 5)) (.slice (some ⟨w6.heap.size, 0, none⟩) 1 1) [j] := reads8_one w6 _ j
              refine (us_fill (U6.out.alloc (.cells #[.int .u8 (j : Int)] 5)) (List.mem_append_right _ (List.mem_singleton.2 rfl)) hr1 (by omega)).mono ?_
              rintro e w9 ⟨M9, rfl, hh, hu, hpt, hot⟩
              have hOg : O g := (C.num U6.out.has.pg).2.2.1
              have uO : Upd O (w6.alloc (.cells #[.int .u8 (j : Int)] 5)) w9 := hu.mono fun b (e : b = g) => by rw [e]; exact hOg
              have U9 := Lib.hid hh; have R9 := Lib.hid ((R6.out.alloc (.cells #[.int .u8 (j : Int)] 5)).upd uO OB.out)
              have B9 := Lib.hid ((U6.out.alloc (.cells #[.int .u8 (j : Int)] 5)).has.blk uO (B6.out.alloc _) (by rw [NB9.out]; exact Nat.le_refl _))
              have MP9 := Lib.hid (ownsMap_upd (M6.out.alloc _) uO OM.out)
              have K9 : Hid (bm + 1 ≤ w9.heap.size) := Lib.hid (by have h1 := uO.size; rw [World.size_alloc] at h1; have h2 := K6.out; omega)
              have HO9 := Lib.hid (HH6.out.put NX.out hpt (show j ≤ 255 by omega) hot); have TO9 := Lib.hid (HT.out.put x6 j)
              clear hr1 hh hu hpt hot hOg uO f1
              go_wp2_with (first
                | (at_mapUpdate; refine wpList_mapUpdate_own _ rfl _ _ _ 61 rfl 22 5 keyU Try.underlying61 _ bm j D rfl MP9.out (by unfold maxLen; omega) _ _ _ rfl rfl KY.out _ [] (plain8 (c := j) (by omega)) ?_; intro w10 hown10 hg10; have u10 := upd_grownBy hg10; have U10 := Lib.hid (U9.out.upd u10 (fun b (e : b = bm) => by rw [e, NB9.out]; omega)); have R10 := Lib.hid (R9.out.upd u10 (fun b (e : b = bm) => by rw [e]; exact Nat.lt_succ_self _)); have B10 := Lib.hid (B9.out.upd u10 (fun (e : k9 = bm) => by omega)); have M10 := Lib.hid hown10; have K10 : Hid (bm + 1 ≤ w10.heap.size) := Lib.hid (Nat.le_trans K9.out u10.size); clear hown10 hg10 u10)
                | (at_builtin; refine wpList_append_vec (E := Elem.u64s) rfl (.tmp 164) (.tmp 166) 38 rfl 22 i0 (.int .u64 0) 8 Try.underlying38 hi hz0 hz1 hz2 rfl (.slice av z cv) (.slice (some ⟨w10.heap.size, 0, none⟩) 1 1) U [x6] rfl rfl (R10.out.alloc _).vec (u64_oneAt w10 22 x6 _ rfl) ?_ ?_ ?_
                   · rw [ZZ.out]; simp only [maxLen, List.length_cons, List.length_nil]; omega
                   · rw [ZZ.out]; simp only [List.length_cons, List.length_nil]; omega
                   intro v11 w11 hv hu hin
                   have M11 : Hid (LastsAt w C pp p g O nb c s n k9 bm (j + 1) v11 w11) := Lib.hid ⟨_, _, _, _, _, _, MU.out _ _ _ _ _ ((U10.out.alloc (.cells #[.int .u64 (x6 : Int)] 22)).upd hu (fun b hb => by have := R10.out.far b hb; rw [NB9.out]; omega)), (R10.out.alloc _).app (by rw [World.size_alloc]; have := K10.out; omega) hv hin, (B10.out.alloc _).upd hu (fun hb => by have := R10.out.far _ hb; omega), ownsMap_upd (M10.out.alloc _) hu (fun hb => by have := R10.out.far _ hb; omega), TO9.out, HO9.out, by have h1 := hu.size; rw [World.size_alloc] at h1; have h2 := K10.out; omega⟩
                   clear hv hu hin))
              go_meet
              exact M11.out
            · have r6 := R1.out.upd hu OB.out
              have b6 := U1.out.has.blk hu BK1.out (by rw [NB9.out]; exact Nat.le_refl _)
              have M6 : Hid (LastsAt w C pp p g O nb c s n k9 bm (j + 1) (.slice av z cv) w6) := Lib.hid ⟨_, _, _, _, D, f, MU.out _ _ _ _ _ hh, r6, b6, (ownsMap_upd M1.out hu OM.out).mono (Nat.le_succ _), HT.out, HH.out.same hsm, Nat.le_trans K1.out hu.size⟩
              clear hh hu r6 b6 hsm
              go_wp2_with fail
              go_meet
              exact M6.out
          · have e1 : decide ((1 : Int) ≤ kd) = false := decide_eq_false (by omega)
            have e0 : (kd == (0 : Int)) = false := by rw [beq_eq_false_iff_ne]; omega
            clear hk
            go_wp2_with fail
            go_meet
            exact ⟨_, _, _, _, D, f, MU.out _ _ _ _ _ U1.out, R1.out, BK1.out, M1.out.mono (Nat.le_succ _), HT.out, HH.out, K1.out⟩
          · have e1 : decide ((1 : Int) ≤ kd) = true := decide_eq_true (by omega)
            have e3 : decide (kd ≤ (3 : Int)) = false := decide_eq_false (by omega)
            have e0 : (kd == (0 : Int)) = false := by rw [beq_eq_false_iff_ne]; omega
            clear hk
            go_wp2_with fail
            go_meet
            exact ⟨_, _, _, _, D, f, MU.out _ _ _ _ _ U1.out, R1.out, BK1.out, M1.out.mono (Nat.le_succ _), HT.out, HH.out, K1.out⟩
      case rest =>
        obtain ⟨U2, P2, L2, S2, D2, f2, hu2, hr2, hb2, hm2, ht2, hh2, hk2⟩ := hcut
        obtain ⟨av2, cv2, rfl, hd1, hd2⟩ := hr2.slice
        obtain ⟨z2, hz2'⟩ : ∃ z, U2.length = z := ⟨_, rfl⟩
        rw [hz2'] at hr2 hd1 ⊢
        obtain ⟨r, hr⟩ : ∃ r, wc.heap.size = r := ⟨_, rfl⟩
        have hnv : ∀ b, In (.slice av2 z2 cv2) b → b ≠ r := fun b hb => by have := hr2.vec.lt hb; omega
        have hrb : bm < r := by omega
        have U2' := Lib.hid hu2; have R2 := Lib.hid hr2; have B2 := Lib.hid hb2; have K2 := Lib.hid hk2; have M2 := Lib.hid hm2; have T2 := Lib.hid ht2; have H2' := Lib.hid hh2; have NV := Lib.hid hnv
        have W64 : IntKind.i64.wrap (s : Int) = (s : Int) := IntWalk.i64_in _ ⟨by omega, by omega⟩
        clear hr2 hb2 hk2 hz2' hu2 hm2 ht2 hh2 hnv U1 R1 BK1 K1 M1 HU HR HB HK HM HT HH m0 m1 hz60 hct hc1 hc2 ZZ BA
        go_wp2_with (first
          | (at_range; refine wpList_range_own _ rfl _ 61 rfl 22 5 keyU Try.underlying61 _ bm _ _ rfl M2.out ?_; intro w5 hrg5 hg5 hs5)
          | fail)
        go_frame
        rw [hr] at hrg5 ⊢
        have u5 : Upd (fun _ => False) wc w5 := (Upd.refl _ wc).grown hg5 (fun k hk => by cases hk)
        have I5 : Hid (Ranging w C pp p g O nb c s n k9 bm (j + 1) r (.slice av2 z2 cv2) U2 P2 L2 S2 D2 w5) := Lib.hid ⟨_, _, hrg5, U2'.out.upd u5 (fun _ h => h.elim), R2.out.upd u5 (fun _ h => h.elim), B2.out.upd u5 id, Nat.le_trans K2.out u5.size⟩
        clear hrg5 hg5 hs5 u5 hr
        go_loopw [25] (fun _ wr => Ranging w C pp p g O nb c s n k9 bm (j + 1) r (.slice av2 z2 cv2) U2 P2 L2 S2 D2 wr) (fun _ wr => wr.rangeLeft bm r)
        case atStart => exact I5.out
        case round =>
          clear I5
          obtain ⟨left, cnt, hrg, hu, hro, hbl, hk⟩ := hrel
          have RG := Lib.hid hrg; have U6 := Lib.hid hu; have R6 := Lib.hid hro; have B6 := Lib.hid hbl; have K6 := Lib.hid hk
          clear hrg hu hro hbl hk
          go_wp2_with (first
            | (at_next; refine wpList_next_nn rfl _ rfl bm r (j + 1) D2 left cnt rfl RG.out ?_ ?_)
            | fail)
          · intro hc0 hl0
            go_wp2_with fail
            exact ⟨⟨j + 1, by omega, by go_num, _, _, _, _, _, f2, U6.out, R6.out, B6.out, RG.out.owns, T2.out, H2'.out, K6.out⟩, by simp [intOf]; omega⟩
          · intro x c8 w7 cnt7 hx hc8 hat hrg7 hlt7 hg7 hs7 hen
            obtain ⟨hxU, hcf⟩ := T2.out.entry hat
            obtain ⟨hpt, _⟩ := H2'.out x hxU
            rw [← hcf] at hpt
            have u7 := upd_grownBy hg7
            have hu7 := U6.out.upd u7 (fun b (e : b = r) => by rw [e, NB9.out]; omega)
            have GT := us_get hu7 hxU
            rw [hpt] at GT
            have b7 := B6.out.upd u7 (fun (e : k9 = r) => by omega)
            have f1 : w7.cell? ⟨k9, 1, none⟩ = some (.int .u64 (s : Int)) := b7.cell 1
            have U7 := Lib.hid hu7; have R7 := Lib.hid (R6.out.upd' u7 (fun b hb (e : b = r) => NV.out b hb e)); have B7 := Lib.hid b7; have RG7 := Lib.hid hrg7; have G7 := Lib.hid GT
            have K7 : Hid (bm + 1 ≤ w7.heap.size) := Lib.hid (Nat.le_trans K6.out u7.size)
            have LT7 := Lib.hid hlt7
            clear hat hxU hcf hpt u7 hu7 GT b7 hrg7 hg7 hs7 hlt7
            go_wp2_with fail
            refine G7.out.mono ?_; rintro e w8 ⟨bb, zz, rfl, hbytes, hbb, u8⟩
            rw [MemMath.length_rep]
            have b8 := B7.out.upd u8 id
            have f1 : w8.cell? ⟨k9, 1, none⟩ = some (.int .u64 (s : Int)) := b8.cell 1
            have hcell : ∀ i, i < s → w8.cell? ⟨bb, i, none⟩ = some (.int .u8 (c8 : Int)) := fun i hi => by
              have h1 := hbytes.cell i (by rw [List.length_append, MemMath.length_rep]; omega)
              rw [h1]
              have h2 : (MemMath.rep s c8 ++ List.replicate zz 0).getD i 0 = c8 := by
                rw [List.getD_eq_getElem?_getD, List.getElem?_append_left (by rw [MemMath.length_rep]; exact hi), ← List.getD_eq_getElem?_getD]
                exact MemMath.getD_rep hi
              rw [h2]
            have tss : ((s : Int) != (s : Int)) = false := by simp
            have U8 := Lib.hid (U7.out.upd u8 (fun _ h => h.elim)); have R8 := Lib.hid (R7.out.upd u8 (fun _ h => h.elim)); have B8 := Lib.hid b8; have RG8 := Lib.hid (ranges_upd RG7.out u8 id id); have CL := Lib.hid hcell
            have K8 : Hid (bm + 1 ≤ w8.heap.size) := Lib.hid (Nat.le_trans K7.out u8.size)
            clear b8 hcell hbytes hbb u8 hen
            go_wp2_with fail
            clear tss f1
            go_loopw [195] (fun i wr => AtByte s w8 i wr) (fun i _ => s - (intOf i).toNat)
            case atStart => exact ⟨0, Nat.zero_le _, rfl, rfl⟩
            case round =>
              obtain ⟨q, hq, rfl, rfl⟩ := hrel
              by_cases hqs : q < s
              · have d0 := CL.out q hqs
                have t5 : decide ((q : Int) < (s : Int)) = true := decide_eq_true (by omega)
                have q0 : (0 : Int) ≤ (q : Int) := by omega
                have q1 : (q : Int) < (s : Int) := by omega
                have tcc : ((c8 : Int) != (c8 : Int)) = false := by simp
                go_wp2_with fail
                exact ⟨⟨q + 1, by omega, by go_num, rfl⟩, by simp [intOf]; omega⟩
              · have t5 : decide ((q : Int) < (s : Int)) = false := decide_eq_false (by omega)
                go_wp2_with fail
                exact ⟨⟨_, _, RG8.out, U8.out, R8.out, B8.out, K8.out⟩, by rw [RG8.out.left_eq, RG.out.left_eq]; exact LT7.out⟩
    · have t2 : decide ((j : Int) < (len : Int)) = false := decide_eq_false (by omega)
      clear hu
      go_wp2
      go_ret
      exact ⟨rfl, HU.out.has.below⟩
set_option maxRecDepth 100000 in
set_option maxHeartbeats 2000000 in
theorem walk_of (w : World) (C : PgC w) (sz : Int) (hsw : (Lit.int .u8 sz).wf = true) {a : Option Addr} {n cap : Nat} (len : Nat) (F : Nat → Nat → Value) (h : Recs w (.slice a n cap) [.num .i64, .num .i64, .num .u64] len F) :
    Calls Try.prog 5 #[.int .u8 sz, .slice a n cap] w fun e w' => e = .returned (.bool true) ∧ Below w.heap.size w w' := by
  obtain ⟨rfl, _, _⟩ := h.len
  obtain ⟨e1, hs1⟩ := u8_of hsw
  obtain ⟨A, hA⟩ : ∃ A, sz.toNat = A := ⟨_, rfl⟩
  rw [hA] at e1 hs1
  subst e1
  by_cases hl : n ≤ 100
  · exact walk_short w C A hs1 F h hl
  have t0 : decide ((100 : Int) < (n : Int)) = true := decide_eq_true (by omega)
  clear h hl hsw hA
  go_enter Try.func5, Try.ntmps5
  go_wp2_with fail
  refine (alive_any _ C).mono ?_; rintro e w1 ⟨rfl, hb⟩
  have B1 := Lib.hid hb
  clear hb
  go_wp2_with fail
  refine (made_any w C A 30 hs1 (by decide) _ B1.out).mono ?_; rintro e w2 ⟨pp, p, g, O, nb, c, L0, rfl, hh, hl0, hnb⟩
  have H2 := Lib.hid hh
  clear hh hl0 hnb
  unfold runV
  go_wp2
  go_ret
  exact ⟨rfl, (H2.out.alloc _).below⟩
end Go.Proofs.Ytlnlipjnljbegaa.pageLasts
