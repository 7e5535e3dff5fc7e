/- The law PageActs, walked. -/
import Derived.Test.YtlnlipjnljbegaaGiven9
import Derived.Test.YtlnlipjnljbegaaMay9
import Derived.Deep.CutBlock
import Derived.Deep.DeepCutAuto
namespace Go.Proofs.Ytlnlipjnljbegaa.pageActs
open Go.RowKit Go.Maps ListMath PageMath GeoMath
set_option linter.unusedVariables false

/-- Behind so many acts: both pages, and the row of used blocks. -/
def ActsAt (w : World) (C : PgC w) (pp p g : Nat) (O : Nat → Prop) (nb : Nat) (c : Addr) (q T : Nat) (v : Value) (wx : World) : Prop :=
  ∃ (U P L : List Nat) (S : PG), PB w C pp p g O nb c q (fun b => O b ∨ In v b) U P L S S P wx ∧ Row v U (q + 1) wx ∧ S.ct ≤ T ∧ S.ca ≤ 2 * T
def Acting (w : World) (C : PgC w) (pp p g : Nat) (O : Nat → Prop) (nb : Nat) (c : Addr) (q m : Nat) (v i : Value) (wr : World) : Prop :=
  ∃ j : Nat, j ≤ m ∧ i = .int .i64 (j : Int) ∧ ActsAt w C pp p g O nb c q j v wr
set_option maxRecDepth 100000 in
set_option maxHeartbeats 16000000 in
theorem walk_short (w : World) (C : PgC w) (f s : Nat) (n : Int) (hf : U64B f) (hs : U64B s) (hn : I64B n) {a : Option Addr} {len cap : Nat} (F : Nat → Nat → Value) (h : Recs w (.slice a len cap) [.num .i64, .num .i64, .num .u64] len F) (hl : len ≤ 100) :
    Calls Try.prog 3 #[.agg #[.int .u64 (f : Int), .int .u64 (s : Int), .int .i64 n], .slice a len cap] w fun e w' => e = .returned (.bool true) ∧ Below w.heap.size w w' := by
  have HF := Lib.hid h
  have tm : decide ((100 : Int) < (len : Int)) = false := decide_eq_false (by omega)
  have MY := Lib.hid (fun w' => refp_may w' f s 16384 n hf hs hn (by decide))
  unfold runV at MY
  have HFS := Lib.hid hf; have HSS := Lib.hid hs; have HNN := Lib.hid hn
  clear h
  obtain ⟨i0, hi, hz0, hz1, hz2⟩ := info_parts infoU64
  have b0 := Blk.new w 24 #[.int .u64 (f : Int), .int .u64 (s : Int), .int .i64 n]
  have hw0 := (Below.refl w.heap.size w).alloc (Nat.le_refl _) (.cells #[.int .u64 (f : Int), .int .u64 (s : Int), .int .i64 n] 24)
  obtain ⟨W0, hW0⟩ : ∃ x, w.alloc (.cells #[.int .u64 (f : Int), .int .u64 (s : Int), .int .i64 n] 24) = x := ⟨_, rfl⟩
  obtain ⟨br, hbr⟩ : ∃ x, w.heap.size = x := ⟨_, rfl⟩
  rw [hW0] at b0 hw0
  rw [hbr] at b0
  have HW0 := Lib.hid hW0; have BW0 := Lib.hid hw0; have KB := Lib.hid b0
  have AL := Lib.hid (alive_any W0 (C.up hw0))
  clear hW0 hw0 b0
  go_enter Try.func3, Try.ntmps3
  go_wp2_with fail
  rw [HW0.out]
  refine AL.out.mono ?_; rintro e w1 ⟨rfl, hb⟩
  have B1 := Lib.hid (below_then BW0.out BW0.out.size hb); have K1 := Lib.hid (KB.out.grew hb)
  clear hb
  go_wp2_with fail
  refine (newMem 16384 (by decide) (by decide) (by decide) w1).mono ?_; rintro e w2 ⟨p, g, L0, rfl, hm, hlen, fp, fg, hb⟩
  have B2 := Lib.hid (below_then B1.out B1.out.size hb); have k2 := K1.out.grew hb
  have M2 := Lib.hid hm; have LN := Lib.hid hlen
  have FP := Lib.hid (Nat.le_trans B1.out.size fp); have FG := Lib.hid (Nat.le_trans B1.out.size fg)
  have r0 : w2.cell? ⟨br, 0, none⟩ = some (.int .u64 (f : Int)) := k2.cell 0
  have r1 : w2.cell? ⟨br, 1, none⟩ = some (.int .u64 (s : Int)) := k2.cell 1
  have r2 : w2.cell? ⟨br, 2, none⟩ = some (.int .i64 n) := k2.cell 2
  have K2 := Lib.hid k2
  clear hm hlen hb k2 fp fg
  by_cases hmay : mayP f s n 16384 = true
  · rw [hmay] at MY
    obtain ⟨m, hnm, hgood⟩ := may_new (L := L0) (by rw [LN.out]; exact hmay) (by rw [LN.out]; decide)
    subst hnm
    have GD := Lib.hid hgood
    have NW := Lib.hid (has_new (C := C) B2.out M2.out FP.out FG.out GD.out)
    unfold runV at NW
    clear hmay hgood
    go_wp2_with fail
    refine NW.out.mono ?_; rintro e w3 ⟨pp, c, O, nb, rfl, hh, hnb, _, hb⟩
    have k3 := K2.out.grew hb
    have H3 := Lib.hid hh; have NB := Lib.hid hnb
    clear r0 r1 r2
    have r0 : w3.cell? ⟨br, 0, none⟩ = some (.int .u64 (f : Int)) := k3.cell 0
    have r1 : w3.cell? ⟨br, 1, none⟩ = some (.int .u64 (s : Int)) := k3.cell 1
    have r2 : w3.cell? ⟨br, 2, none⟩ = some (.int .i64 (m : Int)) := k3.cell 2
    have K3 := Lib.hid k3
    clear hh hnb hb k3
    go_wp2_with fail
    refine (MY.out _).mono ?_; rintro e w4 ⟨rfl, hb⟩
    have k4 := K3.out.grew hb
    have H4 := Lib.hid (H3.out.grew hb)
    have hnb4 : nb ≤ w4.heap.size := by rw [NB.out]; exact hb.size
    have NB4 := Lib.hid hnb4
    have RN := Lib.hid (fun w' (h : Has C pp p g O nb c L0 (newPG f s m) w') => (C.run w' h.below h.pg).mono fun e w5 ⟨h1, h2⟩ => (show e = Ending.returned (.agg #[.int .u64 (f : Int), .int .u64 (s : Int), .int .i64 (m : Int)]) ∧ Below w'.heap.size w' w5 from ⟨h1, h2⟩))
    clear r0 r1 r2
    have r0 : w4.cell? ⟨br, 0, none⟩ = some (.int .u64 (f : Int)) := k4.cell 0
    have r1 : w4.cell? ⟨br, 1, none⟩ = some (.int .u64 (s : Int)) := k4.cell 1
    have r2 : w4.cell? ⟨br, 2, none⟩ = some (.int .i64 (m : Int)) := k4.cell 2
    have K4 := Lib.hid k4
    clear hb k4 hnb4
    go_wp2_with fail
    go_region_held3 (fun w' => w'.cell? ⟨br, 0, none⟩ = some (.int .u64 (f : Int)) ∧ w'.cell? ⟨br, 1, none⟩ = some (.int .u64 (s : Int)) ∧ w'.cell? ⟨br, 2, none⟩ = some (.int .i64 (m : Int))) (first | go_keep | exact ⟨r0, r1, r2⟩)
      (first
        | (go_at_call 14; (first | (with_reducible refine (RN.out _ H4.out.drew).mono ?_) | (with_reducible refine (RN.out _ H4.out).mono ?_)); rintro e w5 ⟨rfl, hb⟩; have hb' := (Below.refl _ w4).drew.trans hb; have k5 := K4.out.grew hb'; have r0 : w5.cell? ⟨br, 0, none⟩ = some (.int .u64 (f : Int)) := k5.cell 0; have r1 : w5.cell? ⟨br, 1, none⟩ = some (.int .u64 (s : Int)) := k5.cell 1; have r2 : w5.cell? ⟨br, 2, none⟩ = some (.int .i64 (m : Int)) := k5.cell 2; have B5 := Lib.hid hb'; clear hb hb' k5))
    have H5 := Lib.hid (H4.out.grew B5.out)
    have hnb5 : nb ≤ w5.heap.size := Nat.le_trans NB4.out B5.out.size
    obtain ⟨q, hq⟩ : ∃ q, w5.heap.size = q := ⟨_, rfl⟩
    have I0 : Hid (Acting w C pp p g O nb c q len (.slice none 0 0) (.int .i64 0) (w5.alloc (.cells (pgC (newPG f s m) (.slice none 0 0) (.slice none 0 0) (.slice none 0 0)) 40))) := Lib.hid (by
      refine ⟨0, Nat.zero_le _, rfl, [], [], L0, newPG f s m, ⟨H5.out.alloc _, Wh.new _ _ _ _, ⟨⟨none, 0, none, 0, none, 0, ?_, Rw.nil _ _, Rw.nil _ _, Rw.nil _ _⟩, ?_⟩, by omega, fun b x => Or.inl x, ?_⟩, Row.nil _ _, Nat.le_refl _, Nat.zero_le _⟩
      · rw [← hq]; exact Blk.new w5 _ _
      · rintro (x | x)
        · have := H5.out.hi _ x; omega
        · cases x
      · rintro b (x | x)
        · have := H5.out.hi _ x; rw [World.size_alloc]; omega
        · cases x)
    clear tm
    go_wp2_with fail
    clear hq r0 r1 r2
    go_loopw [10, 65] (fun v i wr => Acting w C pp p g O nb c q len v i wr) (fun _ i _ => len - (intOf i).toNat)
    case atStart => exact I0.out
    case round =>
      clear I0
      obtain ⟨j, hj, rfl, U, P, L, S, hu, hr, hct, hca⟩ := hrel
      obtain ⟨av, cv, rfl, hc1, hc2⟩ := hr.slice
      obtain ⟨z, hz⟩ : ∃ z, U.length = z := ⟨_, rfl⟩
      rw [hz] at hr hc1 hu ⊢
      have HU := Lib.hid hu; have HR := Lib.hid hr; have ZZ := Lib.hid hz
      clear hr hz
      by_cases hjl : j < len
      · obtain ⟨b2, off2, kd, wh, X, ea, hact, hkd, hwh, hX⟩ := act9 HF.out hjl
        obtain ⟨x0, x1, x2⟩ := hact wr hu.has.below
        subst ea
        have t2 : decide ((j : Int) < (len : Int)) = true := decide_eq_true (by omega)
        have q3 : (0 : Int) ≤ (j : Int) := by omega
        have q4 : (j : Int) < (len : Int) := by omega
        clear hact hu
        have bA := Blk.new wr 42 #[.int .i64 kd, .int .i64 wh, .int .u64 (X : Int)]
        obtain ⟨W1, hW1⟩ : ∃ x, wr.alloc (.cells #[.int .i64 kd, .int .i64 wh, .int .u64 (X : Int)] 42) = x := ⟨_, rfl⟩
        obtain ⟨bc, hbc⟩ : ∃ b, wr.heap.size = b := ⟨_, rfl⟩
        have hs1 : W1.heap.size = wr.heap.size + 1 := by rw [← hW1]; simp
        rw [hW1, hbc] at bA
        have m0 : W1.cell? ⟨bc, 0, none⟩ = some (.int .i64 kd) := bA.cell 0
        have m1 : W1.cell? ⟨bc, 1, none⟩ = some (.int .i64 wh) := bA.cell 1
        have m2 : W1.cell? ⟨bc, 2, none⟩ = some (.int .u64 (X : Int)) := bA.cell 2
        have hgr : Below wr.heap.size wr W1 := by rw [← hW1]; exact (Below.refl _ wr).alloc (Nat.le_refl _) _
        have U1 := Lib.hid (HU.out.grew hgr); have R1 := Lib.hid (HR.out.grew hgr)
        have FT := Lib.hid (fit_of HU.out.good HU.out.wh (by omega) (by omega))
        have hz1024 : z ≤ 1024 := by
          have h1 := HU.out.wh.use; have h2 := HU.out.wh.add; have h3 := HU.out.good.made; have h4 := HU.out.good.n2; have h5 := ZZ.out
          omega
        have hqs : q < wr.heap.size := HU.out.rp.lt
        have hbcA : ¬ (O bc ∨ In (.slice av z cv) bc) ∧ bc ≠ q := ⟨fun x => by have := HU.out.hA bc x; omega, by omega⟩
        have hOq : ∀ b, O b → b < q + 1 := fun b hb => by have h1 := HU.out.has.hi b hb; have h2 := HU.out.hq; omega
        have OB := Lib.hid hOq; have BCA := Lib.hid hbcA
        have BA := Lib.hid bA
        have K1s : Hid (q + 1 ≤ W1.heap.size) := Lib.hid (by omega)
        clear bA hgr hs1 hOq hbcA
        go_upto_if 71 with fail
        clear hW1 hbc x0 x1 x2
        go_cut [13] (fun sk wx => ∃ kq : Nat, sk = .int .i64 (kq : Int) ∧ (0 < z → kq < z) ∧ W1 = wx)
        case first =>
          by_cases hz0 : z = 0
          · have t1 : decide ((0 : Int) < (z : Int)) = false := decide_eq_false (by omega)
            have t1' : decide (0 < z) = false := decide_eq_false (by omega)
            have hzz : ¬ 0 < z := by omega
            clear hz0
            go_wp2_with fail
            go_meet
            exact ⟨0, rfl, fun h => absurd h hzz, rfl⟩
          · have t1 : decide ((0 : Int) < (z : Int)) = true := decide_eq_true (by omega)
            have t1' : decide (0 < z) = true := decide_eq_true (by omega)
            have zp : (0 : Int) < (z : Int) := by omega
            have zne : ¬ (z : Int) = 0 := by omega
            obtain ⟨Rm, hRm⟩ : ∃ R, Int.tmod wh (z : Int) = R := ⟨_, rfl⟩
            have hRz : Rm < (z : Int) := by rw [← hRm]; exact Int.tmod_lt_of_pos _ zp
            obtain ⟨kq, hkq⟩ : ∃ q : Nat, (if Rm > 0 then Rm else 0) = (q : Int) := by
              by_cases h : Rm > 0
              · exact ⟨Rm.toNat, by rw [if_pos h]; omega⟩
              · exact ⟨0, by rw [if_neg h]; rfl⟩
            have hqz : kq < z := by
              by_cases h : Rm > 0
              · rw [if_pos h] at hkq; omega
              · rw [if_neg h] at hkq; omega
            have hmax : ∀ w, (Builtin.max_ #[3, 3] 3 #[.int .i64 0, .int .i64 Rm]).run Try.prog w = .ok (.int .i64 (kq : Int)) w := fun w => by rw [run_max_int2, hkq]
            clear hz0 hkq
            go_wp2_with fail
            go_meet
            exact ⟨kq, rfl, fun _ => hqz, rfl⟩
        case rest =>
          obtain ⟨kq, rfl, hkq, rfl⟩ := hcut
          have HKQ := Lib.hid hkq
          clear hkq
          go_upto_block 2 with fail
          go_cut [10] (fun v wx => ActsAt w C pp p g O nb c q (j + 1) v wx)
          case first =>
            have hkind : kd = 4 ∨ kd = 5 ∨ kd = 6 ∨ kd = 1 ∨ kd = 2 ∨ kd = 3 ∨ kd < 1 ∨ 6 < kd := by omega
            rcases hkind with h4 | hk | hk | hk | hk | hk | hk | hk
            · as_aux_lemma =>
                subst h4
                have RGA : Hid (∀ L' w1, PB w C pp p g O nb c q (fun b => O b ∨ In (.slice av z cv) b) U [] L' (gathP S P) S P w1 → Calls Try.prog 16 #[.pointer (some ⟨q, 0, none⟩)] w1 fun e w2 => e = .returned (.int .i64 (P.length : Int)) ∧ PB w C pp p g O nb c q (fun b => O b ∨ In (.slice av z cv) b) U [] L' (gathP S P) (gathP S P) [] w2 ∧ Upd (fun b => b = q) w1 w2) := Lib.hid fun L' w1 h1 => pb_rgather h1 FT.out (U1.out.wh.chain U1.out.good).2.1
                have GA := Lib.hid (pb_gather U1.out)
                obtain ⟨nP, hnP⟩ : ∃ n, P.length = n := ⟨_, rfl⟩
                rw [hnP] at GA RGA
                have tn : ((nP : Int) != (nP : Int)) = false := by simp
                clear hnP
                go_wp2_with fail
                refine GA.out.mono ?_; rintro e w6 ⟨L6, rfl, hh, hu⟩
                have U6 := Lib.hid hh; have R6 := Lib.hid (R1.out.upd hu OB.out)
                clear hh hu
                go_wp2_with fail
                refine (RGA.out _ _ U6.out).mono ?_; rintro e w7 ⟨rfl, hh, hu⟩
                have U7 := Lib.hid hh; have R7 := Lib.hid (R6.out.upd hu (fun b hb => by rw [hb]; exact Nat.lt_succ_self _))
                clear hh hu
                go_wp2_with fail
                go_meet
                exact ⟨_, _, _, _, U7.out, R7.out, Nat.succ_le_succ hct, by show S.ca + 1 ≤ _; omega⟩
            · as_aux_lemma =>
                have k4 : (kd == (4 : Int)) = false := by rw [hk]; decide
                subst hk
                obtain ⟨aF, cF, aG, cG, aP, cP, kk, rF, rG, rP⟩ := U1.out.rp.out
                obtain ⟨nF, hnF⟩ : ∃ n, S.F.length = n := ⟨_, rfl⟩
                obtain ⟨nG, hnG⟩ : ∃ n, S.G.length = n := ⟨_, rfl⟩
                obtain ⟨nP, hnP⟩ : ∃ n, P.length = n := ⟨_, rfl⟩
                have c5 : W1.cell? ⟨q, 5, none⟩ = some (.slice aF nF cF) := by rw [← hnF]; exact kk.cell 5
                have c6 : W1.cell? ⟨q, 6, none⟩ = some (.slice aG nG cG) := by rw [← hnG]; exact kk.cell 6
                have c7 : W1.cell? ⟨q, 7, none⟩ = some (.slice aP nP cP) := by rw [← hnP]; exact kk.cell 7
                have lF := FT.out.lF; have lG := FT.out.lG
                have lP : P.length ≤ 1024 := by have h1 := U1.out.wh.use; have h2 := FT.out; have h3 := U1.out.wh.add; have h4 := h2.made; have h5 := h2.n; omega
                rw [hnF] at lF; rw [hnG] at lG; rw [hnP] at lP
                have qF := rF.1; have qG := rG.1; have qP := rP.1
                rw [hnF] at qF; rw [hnG] at qG; rw [hnP] at qP
                have I1 : Hid (∀ d, Calls Try.prog 17 #[.slice av z cv, .int .u64 (X : Int)] (W1.drewN d) fun e w'' => e = .returned (.bool (decide (X ∈ U))) ∧ ∃ m, w'' = W1.drewN m) := Lib.hid fun d => (in_any (W1.drewN d) ((R1.out.vec.seq).drewN d) (show z ≤ _ by omega) X hX).mono fun e w' ⟨h1, h2⟩ => ⟨h1, d, h2.symm⟩
                have I2 : Hid (∀ d, Calls Try.prog 17 #[.slice aF nF cF, .int .u64 (X : Int)] (W1.drewN d) fun e w'' => e = .returned (.bool (decide (X ∈ S.F))) ∧ ∃ m, w'' = W1.drewN m) := Lib.hid fun d => (in_any (W1.drewN d) (qF.drewN d) (show nF ≤ _ by omega) X hX).mono fun e w' ⟨h1, h2⟩ => ⟨h1, d, h2.symm⟩
                have I3 : Hid (∀ d, Calls Try.prog 17 #[.slice aG nG cG, .int .u64 (X : Int)] (W1.drewN d) fun e w'' => e = .returned (.bool (decide (X ∈ S.G))) ∧ ∃ m, w'' = W1.drewN m) := Lib.hid fun d => (in_any (W1.drewN d) (qG.drewN d) (show nG ≤ _ by omega) X hX).mono fun e w' ⟨h1, h2⟩ => ⟨h1, d, h2.symm⟩
                have I4 : Hid (∀ d, Calls Try.prog 17 #[.slice aP nP cP, .int .u64 (X : Int)] (W1.drewN d) fun e w'' => e = .returned (.bool (decide (X ∈ P))) ∧ ∃ m, w'' = W1.drewN m) := Lib.hid fun d => (in_any (W1.drewN d) (qP.drewN d) (show nP ≤ _ by omega) X hX).mono fun e w' ⟨h1, h2⟩ => ⟨h1, d, h2.symm⟩
                clear kk rF rG rP hnF hnG hnP lF lG lP qF qG qP
                go_upto_region 30 with fail
                go_cut [158] (fun r wx => (r = .bool true ∨ (r = .bool false ∧ X ∉ U ∧ X ∉ S.F ∧ X ∉ S.G ∧ X ∉ P)) ∧ ∃ d, wx = W1.drewN d)
                case first => as_aux_lemma =>
                  by_cases h1 : X ∈ U
                  · have d1 := decide_eq_true h1
                    rw [d1] at I1
                    clear h1 d1
                    go_quiet (with_reducible exact I1.out _)
                    go_wp2_with fail
                    go_meet
                    exact ⟨Or.inl rfl, _, rfl⟩
                  · have d1 := decide_eq_false h1
                    rw [d1] at I1
                    by_cases h2 : X ∈ S.F
                    · have d2 := decide_eq_true h2
                      rw [d2] at I2
                      clear h1 d1 h2 d2
                      go_quiet (first | with_reducible exact I1.out _ | with_reducible exact I2.out _)
                      go_wp2_with fail
                      go_meet
                      exact ⟨Or.inl rfl, _, rfl⟩
                    · have d2 := decide_eq_false h2
                      rw [d2] at I2
                      by_cases h3 : X ∈ S.G
                      · have d3 := decide_eq_true h3
                        rw [d3] at I3
                        clear h1 d1 h2 d2 h3 d3
                        go_quiet (first | with_reducible exact I1.out _ | with_reducible exact I2.out _ | with_reducible exact I3.out _)
                        go_wp2_with fail
                        go_meet
                        exact ⟨Or.inl rfl, _, rfl⟩
                      · have d3 := decide_eq_false h3
                        rw [d3] at I3
                        by_cases h4 : X ∈ P
                        · have d4 := decide_eq_true h4
                          rw [d4] at I4
                          clear h1 d1 h2 d2 h3 d3 h4 d4
                          go_quiet (first | with_reducible exact I1.out _ | with_reducible exact I2.out _ | with_reducible exact I3.out _ | with_reducible exact I4.out _)
                          go_wp2_with fail
                          go_meet
                          exact ⟨Or.inl rfl, _, rfl⟩
                        · have d4 := decide_eq_false h4
                          rw [d4] at I4
                          have N1 := Lib.hid h1; have N2 := Lib.hid h2; have N3 := Lib.hid h3; have N4 := Lib.hid h4
                          clear h1 d1 h2 d2 h3 d3 h4 d4
                          go_quiet (first | with_reducible exact I1.out _ | with_reducible exact I2.out _ | with_reducible exact I3.out _ | with_reducible exact I4.out _)
                          go_wp2_with fail
                          go_meet
                          exact ⟨Or.inr ⟨rfl, N1.out, N2.out, N3.out, N4.out⟩, _, rfl⟩
                case rest =>
                  obtain ⟨hr, d, hwd⟩ := hcut
                  have bd : Below W1.heap.size W1 wc := by rw [hwd]; exact below_drewN (Below.refl _ W1) _
                  have U3 := Lib.hid (U1.out.grew bd); have R3 := Lib.hid (R1.out.grew bd); have BA3 := Lib.hid (BA.out.grew bd)
                  have K3 : Hid (q + 1 ≤ wc.heap.size) := Lib.hid (Nat.le_trans K1s.out bd.size)
                  clear hwd bd c5 c6 c7 I1 I2 I3 I4 m0 m1 m2 U1 R1
                  rcases hr with rfl | ⟨rfl, n1, n2, n3, n4⟩
                  · go_wp2_with fail
                    exact ⟨⟨j + 1, by omega, by go_num, U, P, L, S, U3.out, R3.out, by omega, by omega⟩, by simp [intOf]; omega⟩
                  · have hge := given_else U3.out.good U3.out.wh n1 n2 n3 n4
                    have GV := Lib.hid (fun w1 (h1 : PB w C pp p g O nb c q (fun b => O b ∨ In (.slice av z cv) b) U P L S S P w1) => pb_given h1 FT.out hX)
                    have FB := Lib.hid (fun w1 (h1 : PB w C pp p g O nb c q (fun b => O b ∨ In (.slice av z cv) b) U P L S S P w1) (b : Nat) (hq : Seq Elem.u64s w1 (.slice (some ⟨b, 0, none⟩) 1 1) [X]) => pb_freebad h1 hq hX hge)
                    have PO := Lib.hid (fun w1 (h1 : PB w C pp p g O nb c q (fun b => O b ∨ In (.slice av z cv) b) U P L S S P w1) => pb_postbad h1 hX n2 n3 hge)
                    obtain ⟨ge, hgee⟩ : ∃ x, givenE S X = x := ⟨_, rfl⟩
                    rw [hgee] at GV FB PO
                    have tg : ((ge : Int) != ge) = false := by simp
                    have m0 : wc.cell? ⟨bc, 0, none⟩ = some (.int .i64 5) := BA3.out.cell 0
                    have m2 : wc.cell? ⟨bc, 2, none⟩ = some (.int .u64 (X : Int)) := BA3.out.cell 2
                    clear hge hgee n1 n2 n3 n4
                    go_wp2_with fail
                    refine (GV.out _ U3.out).mono ?_; rintro e w5 ⟨rfl, hh, hb⟩
                    have U5 := Lib.hid hh; have R5 := Lib.hid (R3.out.grew hb); have BA5 := Lib.hid (BA3.out.grew hb)
                    have m0 : w5.cell? ⟨bc, 0, none⟩ = some (.int .i64 5) := BA5.out.cell 0
                    have m2 : w5.cell? ⟨bc, 2, none⟩ = some (.int .u64 (X : Int)) := BA5.out.cell 2
                    clear hh hb
                    go_wp2_with fail
                    refine (FB.out _ (U5.out.alloc _) _ (u64_oneAt w5 22 X _ rfl)).mono ?_; rintro e w6 ⟨rfl, hh, hb⟩
                    have U6 := Lib.hid hh; have R6 := Lib.hid ((R5.out.alloc _).grew hb); have BA6 := Lib.hid ((BA5.out.alloc _).grew hb)
                    have m0 : w6.cell? ⟨bc, 0, none⟩ = some (.int .i64 5) := BA6.out.cell 0
                    have m2 : w6.cell? ⟨bc, 2, none⟩ = some (.int .u64 (X : Int)) := BA6.out.cell 2
                    clear hh hb
                    go_wp2_with fail
                    refine (PO.out _ U6.out).mono ?_; rintro e w7 ⟨rfl, hh, hu⟩
                    have U7 := Lib.hid hh; have R7 := Lib.hid (R6.out.upd hu OB.out)
                    have m0 : w7.cell? ⟨bc, 0, none⟩ = some (.int .i64 5) := (BA6.out.upd hu (fun x => BCA.out.1 (Or.inl x))).cell 0
                    clear hh hu
                    go_wp2_with fail
                    go_meet
                    exact ⟨_, _, _, _, U7.out, R7.out, by omega, by omega⟩
            · as_aux_lemma =>
                have k4 : (kd == (4 : Int)) = false := by rw [hk]; decide
                subst hk
                obtain ⟨aF, cF, aG, cG, aP, cP, kk, rF, rG, rP⟩ := U1.out.rp.out
                obtain ⟨nF, hnF⟩ : ∃ n, S.F.length = n := ⟨_, rfl⟩
                obtain ⟨nG, hnG⟩ : ∃ n, S.G.length = n := ⟨_, rfl⟩
                obtain ⟨nP, hnP⟩ : ∃ n, P.length = n := ⟨_, rfl⟩
                have c5 : W1.cell? ⟨q, 5, none⟩ = some (.slice aF nF cF) := by rw [← hnF]; exact kk.cell 5
                have c6 : W1.cell? ⟨q, 6, none⟩ = some (.slice aG nG cG) := by rw [← hnG]; exact kk.cell 6
                have c7 : W1.cell? ⟨q, 7, none⟩ = some (.slice aP nP cP) := by rw [← hnP]; exact kk.cell 7
                have lF := FT.out.lF; have lG := FT.out.lG
                have lP : P.length ≤ 1024 := by have h1 := U1.out.wh.use; have h2 := FT.out; have h3 := U1.out.wh.add; have h4 := h2.made; have h5 := h2.n; omega
                rw [hnF] at lF; rw [hnG] at lG; rw [hnP] at lP
                have qF := rF.1; have qG := rG.1; have qP := rP.1
                rw [hnF] at qF; rw [hnG] at qG; rw [hnP] at qP
                have I1 : Hid (∀ d, Calls Try.prog 17 #[.slice av z cv, .int .u64 (X : Int)] (W1.drewN d) fun e w'' => e = .returned (.bool (decide (X ∈ U))) ∧ ∃ m, w'' = W1.drewN m) := Lib.hid fun d => (in_any (W1.drewN d) ((R1.out.vec.seq).drewN d) (show z ≤ _ by omega) X hX).mono fun e w' ⟨h1, h2⟩ => ⟨h1, d, h2.symm⟩
                have I2 : Hid (∀ d, Calls Try.prog 17 #[.slice aF nF cF, .int .u64 (X : Int)] (W1.drewN d) fun e w'' => e = .returned (.bool (decide (X ∈ S.F))) ∧ ∃ m, w'' = W1.drewN m) := Lib.hid fun d => (in_any (W1.drewN d) (qF.drewN d) (show nF ≤ _ by omega) X hX).mono fun e w' ⟨h1, h2⟩ => ⟨h1, d, h2.symm⟩
                have I3 : Hid (∀ d, Calls Try.prog 17 #[.slice aG nG cG, .int .u64 (X : Int)] (W1.drewN d) fun e w'' => e = .returned (.bool (decide (X ∈ S.G))) ∧ ∃ m, w'' = W1.drewN m) := Lib.hid fun d => (in_any (W1.drewN d) (qG.drewN d) (show nG ≤ _ by omega) X hX).mono fun e w' ⟨h1, h2⟩ => ⟨h1, d, h2.symm⟩
                have I4 : Hid (∀ d, Calls Try.prog 17 #[.slice aP nP cP, .int .u64 (X : Int)] (W1.drewN d) fun e w'' => e = .returned (.bool (decide (X ∈ P))) ∧ ∃ m, w'' = W1.drewN m) := Lib.hid fun d => (in_any (W1.drewN d) (qP.drewN d) (show nP ≤ _ by omega) X hX).mono fun e w' ⟨h1, h2⟩ => ⟨h1, d, h2.symm⟩
                clear kk rF rG rP hnF hnG hnP lF lG lP qF qG qP
                go_upto_region 30 with fail
                go_cut [158] (fun r wx => (r = .bool true ∨ (r = .bool false ∧ X ∉ U ∧ X ∉ S.F ∧ X ∉ S.G ∧ X ∉ P)) ∧ ∃ d, wx = W1.drewN d)
                case first => as_aux_lemma =>
                  by_cases h1 : X ∈ U
                  · have d1 := decide_eq_true h1
                    rw [d1] at I1
                    clear h1 d1
                    go_quiet (with_reducible exact I1.out _)
                    go_wp2_with fail
                    go_meet
                    exact ⟨Or.inl rfl, _, rfl⟩
                  · have d1 := decide_eq_false h1
                    rw [d1] at I1
                    by_cases h2 : X ∈ S.F
                    · have d2 := decide_eq_true h2
                      rw [d2] at I2
                      clear h1 d1 h2 d2
                      go_quiet (first | with_reducible exact I1.out _ | with_reducible exact I2.out _)
                      go_wp2_with fail
                      go_meet
                      exact ⟨Or.inl rfl, _, rfl⟩
                    · have d2 := decide_eq_false h2
                      rw [d2] at I2
                      by_cases h3 : X ∈ S.G
                      · have d3 := decide_eq_true h3
                        rw [d3] at I3
                        clear h1 d1 h2 d2 h3 d3
                        go_quiet (first | with_reducible exact I1.out _ | with_reducible exact I2.out _ | with_reducible exact I3.out _)
                        go_wp2_with fail
                        go_meet
                        exact ⟨Or.inl rfl, _, rfl⟩
                      · have d3 := decide_eq_false h3
                        rw [d3] at I3
                        by_cases h4 : X ∈ P
                        · have d4 := decide_eq_true h4
                          rw [d4] at I4
                          clear h1 d1 h2 d2 h3 d3 h4 d4
                          go_quiet (first | with_reducible exact I1.out _ | with_reducible exact I2.out _ | with_reducible exact I3.out _ | with_reducible exact I4.out _)
                          go_wp2_with fail
                          go_meet
                          exact ⟨Or.inl rfl, _, rfl⟩
                        · have d4 := decide_eq_false h4
                          rw [d4] at I4
                          have N1 := Lib.hid h1; have N2 := Lib.hid h2; have N3 := Lib.hid h3; have N4 := Lib.hid h4
                          clear h1 d1 h2 d2 h3 d3 h4 d4
                          go_quiet (first | with_reducible exact I1.out _ | with_reducible exact I2.out _ | with_reducible exact I3.out _ | with_reducible exact I4.out _)
                          go_wp2_with fail
                          go_meet
                          exact ⟨Or.inr ⟨rfl, N1.out, N2.out, N3.out, N4.out⟩, _, rfl⟩
                case rest =>
                  obtain ⟨hr, d, hwd⟩ := hcut
                  have bd : Below W1.heap.size W1 wc := by rw [hwd]; exact below_drewN (Below.refl _ W1) _
                  have U3 := Lib.hid (U1.out.grew bd); have R3 := Lib.hid (R1.out.grew bd); have BA3 := Lib.hid (BA.out.grew bd)
                  have K3 : Hid (q + 1 ≤ wc.heap.size) := Lib.hid (Nat.le_trans K1s.out bd.size)
                  clear hwd bd c5 c6 c7 I1 I2 I3 I4 m0 m1 m2 U1 R1
                  rcases hr with rfl | ⟨rfl, n1, n2, n3, n4⟩
                  · go_wp2_with fail
                    exact ⟨⟨j + 1, by omega, by go_num, U, P, L, S, U3.out, R3.out, by omega, by omega⟩, by simp [intOf]; omega⟩
                  · have hge := given_else U3.out.good U3.out.wh n1 n2 n3 n4
                    have GV := Lib.hid (fun w1 (h1 : PB w C pp p g O nb c q (fun b => O b ∨ In (.slice av z cv) b) U P L S S P w1) => pb_given h1 FT.out hX)
                    have FB := Lib.hid (fun w1 (h1 : PB w C pp p g O nb c q (fun b => O b ∨ In (.slice av z cv) b) U P L S S P w1) (b : Nat) (hq : Seq Elem.u64s w1 (.slice (some ⟨b, 0, none⟩) 1 1) [X]) => pb_freebad h1 hq hX hge)
                    have PO := Lib.hid (fun w1 (h1 : PB w C pp p g O nb c q (fun b => O b ∨ In (.slice av z cv) b) U P L S S P w1) => pb_postbad h1 hX n2 n3 hge)
                    obtain ⟨ge, hgee⟩ : ∃ x, givenE S X = x := ⟨_, rfl⟩
                    rw [hgee] at GV FB PO
                    have tg : ((ge : Int) != ge) = false := by simp
                    have m0 : wc.cell? ⟨bc, 0, none⟩ = some (.int .i64 6) := BA3.out.cell 0
                    have m2 : wc.cell? ⟨bc, 2, none⟩ = some (.int .u64 (X : Int)) := BA3.out.cell 2
                    clear hge hgee n1 n2 n3 n4
                    go_wp2_with fail
                    refine (GV.out _ U3.out).mono ?_; rintro e w5 ⟨rfl, hh, hb⟩
                    have U5 := Lib.hid hh; have R5 := Lib.hid (R3.out.grew hb); have BA5 := Lib.hid (BA3.out.grew hb)
                    have m0 : w5.cell? ⟨bc, 0, none⟩ = some (.int .i64 6) := BA5.out.cell 0
                    have m2 : w5.cell? ⟨bc, 2, none⟩ = some (.int .u64 (X : Int)) := BA5.out.cell 2
                    clear hh hb
                    go_wp2_with fail
                    refine (PO.out _ U5.out).mono ?_; rintro e w7 ⟨rfl, hh, hu⟩
                    have U7 := Lib.hid hh; have R7 := Lib.hid (R5.out.upd hu OB.out)
                    have m0 : w7.cell? ⟨bc, 0, none⟩ = some (.int .i64 6) := (BA5.out.upd hu (fun x => BCA.out.1 (Or.inl x))).cell 0
                    clear hh hu
                    go_wp2_with fail
                    go_meet
                    exact ⟨_, _, _, _, U7.out, R7.out, by omega, by omega⟩
            · have k4 : (kd == (4 : Int)) = false := by rw [hk]; decide
              have k5 : (kd == (5 : Int)) = false := by rw [hk]; decide
              have k6 : (kd == (6 : Int)) = false := by rw [hk]; decide
              subst hk
              by_cases hz0 : z = 0
              · have tz : ((z : Int) == 0) = true := by rw [beq_iff_eq]; omega
                clear hz0
                go_wp2_with fail
                exact ⟨⟨j + 1, by omega, by go_num, U, P, L, S, U1.out, R1.out, by omega, by omega⟩, by simp [intOf]; omega⟩
              · have tz : ((z : Int) == 0) = false := by rw [beq_eq_false_iff_ne]; omega
                have hqz : kq < z := HKQ.out (by omega)
                obtain ⟨x, hx⟩ : ∃ x, U[kq]? = some x := ⟨U[kq]'(by rw [ZZ.out]; omega), List.getElem?_eq_getElem _⟩
                have hxU := List.mem_of_getElem? hx
                have hperm := drop_perm hx
                obtain ⟨bv, ov, rfl, _⟩ := R1.out.vec.seq.elem hx
                have y0 := R1.out.cell hx
                have q0 : (0 : Int) ≤ (kq : Int) := by omega
                have q1 : (kq : Int) < (z : Int) := by omega
                have hv1 : z ≤ cv := hc1
                have GG := Lib.hid (given_one U1.out FT.out hperm)
                have HX := Lib.hid hx
                clear hx hxU hperm hz0
                go_wp2_with fail
                refine GG.out.mono ?_; rintro e w5 ⟨rfl, L5, hh, hu⟩
                have U5 := Lib.hid hh
                have R5 := Lib.hid (R1.out.upd hu (fun b hb => by rcases hb with x | x; exact OB.out b x; (rw [x]; exact Nat.lt_succ_self _)))
                have m0 : w5.cell? ⟨bc, 0, none⟩ = some (.int .i64 1) := (BA.out.upd hu (fun x => by rcases x with x | x; exact BCA.out.1 (Or.inl x); exact BCA.out.2 x)).cell 0
                have K5 : Hid (q + 1 ≤ w5.heap.size) := Lib.hid (Nat.le_trans K1s.out hu.size)
                clear hh hu y0 m1 m2
                go_wp2_with fail
                obtain ⟨sv1, hs1, hi1, hq1⟩ := cut_to (E := Elem.u64s) (P := Try.prog) 38 Try.underlying38 sizeU (some ⟨bv, ov, none⟩) z cv kq (by omega)
                obtain ⟨sv2, hs2, hi2, hq2, _⟩ := cut_from (E := Elem.u64s) (P := Try.prog) 38 Try.underlying38 sizeU (some ⟨bv, ov, none⟩) z cv (kq + 1) (by omega) hv1
                rw [show ((kq + 1 : Nat) : Int) = (kq : Int) + 1 by omega] at hs2
                have hwq : IntKind.i64.wrap ((kq : Int) + 1) = (kq : Int) + 1 := IntWalk.i64_in _ ⟨by omega, by omega⟩
                have len1 : (U.take kq).length ≤ 2000 := by rw [List.length_take, ZZ.out]; omega
                have len2 : (U.drop (kq + 1)).length ≤ 2000 := by rw [List.length_drop, ZZ.out]; omega
                have SQ : Hid (∀ w', Below w5.heap.size w5 w' → Seq Elem.u64s w' sv1 (U.take kq) ∧ Seq Elem.u64s w' sv2 (U.drop (kq + 1))) :=
                  Lib.hid fun w' hb => by
                    have qs := (R5.out.grew hb).vec.seq
                    exact ⟨hq1 _ _ qs (by omega), hq2 _ _ qs⟩
                clear hi1 hq1 hi2 hq2
                go_region_law (first
                  | (refine step_append_vec (E := Elem.u64s) rfl (.tmp 216) (.tmp 219) 38 rfl 22 i0 (.int .u64 0) 8 Try.underlying38 hi hz0 hz1 hz2 rfl (.slice (some ⟨w5.heap.size, 0, none⟩) 0 0) sv1 [] (U.take kq) ?_ ?_ ?_ ?_ ?_ ?_ ?_
                     · go_simp
                     · go_simp
                     · first | exact Vec.newAt w5 _ _ rfl | exact (Vec.newAt w5 _ _ rfl).drew | exact Vec.newAt w5.drew _ _ rfl
                     · first | exact (SQ.out _ ((Below.refl _ w5).alloc (Nat.le_refl _) _)).1 | exact (SQ.out _ ((Below.refl _ w5).alloc (Nat.le_refl _) _).drew).1 | exact (SQ.out _ ((Below.refl _ w5).drew.alloc (Nat.le_refl _) _)).1
                     · simp only [maxLen, List.length_nil]; omega
                     · simp only [List.length_nil]; omega
                     intro v1 x1 hv1' hu1' hin1'
                     have B1' : Hid (Below w5.heap.size w5 x1) := Lib.hid (by
                       refine Below.trans ?_ (hu1'.below (B := w5.heap.size) (fun k hk => by have := in_at hk; omega) ?_)
                       · first | exact (Below.refl _ w5).alloc (Nat.le_refl _) _ | exact ((Below.refl _ w5).alloc (Nat.le_refl _) _).drew | exact (Below.refl _ w5).drew.alloc (Nat.le_refl _) _
                       · first | exact ((Below.refl _ w5).alloc (Nat.le_refl _) _).size | exact ((Below.refl _ w5).drew.alloc (Nat.le_refl _) _).size)
                     have N1' : Hid (∀ k, In v1 k → w5.heap.size ≤ k) := Lib.hid (fun k hk => by rcases hin1' k hk with x | x; (have := in_at x; omega); (simp at x; omega))
                     have V1' := Lib.hid hv1'
                     clear hv1' hu1' hin1')
                  | (refine step_append_vec (E := Elem.u64s) rfl (.tmp 220) (.tmp 224) 38 rfl 22 i0 (.int .u64 0) 8 Try.underlying38 hi hz0 hz1 hz2 rfl v1 sv2 ([] ++ U.take kq) (U.drop (kq + 1)) ?_ ?_ V1'.out (SQ.out _ B1'.out).2 ?_ ?_ ?_
                     · go_simp
                     · go_simp
                     · simp only [maxLen, List.nil_append]; omega
                     · simp only [List.nil_append]; omega
                     intro v2 x2 hv2' hu2' hin2'
                     have B2' := Lib.hid (below_in B1'.out B1'.out.size N1'.out hu2')
                     have V2' := Lib.hid hv2'
                     have N2' : Hid (∀ k, In v2 k → w5.heap.size ≤ k) := Lib.hid (fun k hk => by rcases hin2' k hk with x | x; exact N1'.out k x; exact Nat.le_trans B1'.out.size x)
                     clear hv2' hu2' hin2'))
                all_goals
                  clear hs1 hs2 hwq
                  go_wp2_with fail
                  go_meet
                  have hv2 := V2'.out
                  rw [List.nil_append] at hv2
                  refine ⟨_, _, _, _, U5.out.row B2'.out (fun b x => Or.inl x) (fun b hb => ?_), ⟨hv2, fun b hb => Nat.le_trans K5.out (N2'.out b hb)⟩, ?_, ?_⟩
                  · rcases hb with x | x
                    · exact Or.inl x
                    · exact Or.inr ⟨N2'.out b x, hv2.lt x⟩
                  · show S.ct ≤ _; omega
                  · show S.ca ≤ _; omega
            · have k4 : (kd == (4 : Int)) = false := by rw [hk]; decide
              have k5 : (kd == (5 : Int)) = false := by rw [hk]; decide
              have k6 : (kd == (6 : Int)) = false := by rw [hk]; decide
              subst hk
              by_cases hz0 : z = 0
              · have tz : ((z : Int) == 0) = true := by rw [beq_iff_eq]; omega
                clear hz0
                go_wp2_with fail
                exact ⟨⟨j + 1, by omega, by go_num, U, P, L, S, U1.out, R1.out, by omega, by omega⟩, by simp [intOf]; omega⟩
              · have tz : ((z : Int) == 0) = false := by rw [beq_eq_false_iff_ne]; omega
                have hqz : kq < z := HKQ.out (by omega)
                obtain ⟨x, hx⟩ : ∃ x, U[kq]? = some x := ⟨U[kq]'(by rw [ZZ.out]; omega), List.getElem?_eq_getElem _⟩
                have hxU := List.mem_of_getElem? hx
                have hperm := drop_perm hx
                obtain ⟨bv, ov, rfl, _⟩ := R1.out.vec.seq.elem hx
                have y0 := R1.out.cell hx
                have q0 : (0 : Int) ≤ (kq : Int) := by omega
                have q1 : (kq : Int) < (z : Int) := by omega
                have hv1 : z ≤ cv := hc1
                have GG := Lib.hid (given_two U1.out FT.out (by omega) hperm)
                have HX := Lib.hid hx
                clear hx hxU hperm hz0
                go_wp2_with fail
                refine GG.out.mono ?_; rintro e w5 ⟨rfl, L5, hh, hu⟩
                have U5 := Lib.hid hh
                have R5 := Lib.hid (R1.out.upd hu (fun b hb => by rcases hb with x | x; exact OB.out b x; (rw [x]; exact Nat.lt_succ_self _)))
                have m0 : w5.cell? ⟨bc, 0, none⟩ = some (.int .i64 2) := (BA.out.upd hu (fun x => by rcases x with x | x; exact BCA.out.1 (Or.inl x); exact BCA.out.2 x)).cell 0
                have K5 : Hid (q + 1 ≤ w5.heap.size) := Lib.hid (Nat.le_trans K1s.out hu.size)
                clear hh hu y0 m1 m2
                go_wp2_with fail
                obtain ⟨sv1, hs1, hi1, hq1⟩ := cut_to (E := Elem.u64s) (P := Try.prog) 38 Try.underlying38 sizeU (some ⟨bv, ov, none⟩) z cv kq (by omega)
                obtain ⟨sv2, hs2, hi2, hq2, _⟩ := cut_from (E := Elem.u64s) (P := Try.prog) 38 Try.underlying38 sizeU (some ⟨bv, ov, none⟩) z cv (kq + 1) (by omega) hv1
                rw [show ((kq + 1 : Nat) : Int) = (kq : Int) + 1 by omega] at hs2
                have hwq : IntKind.i64.wrap ((kq : Int) + 1) = (kq : Int) + 1 := IntWalk.i64_in _ ⟨by omega, by omega⟩
                have len1 : (U.take kq).length ≤ 2000 := by rw [List.length_take, ZZ.out]; omega
                have len2 : (U.drop (kq + 1)).length ≤ 2000 := by rw [List.length_drop, ZZ.out]; omega
                have SQ : Hid (∀ w', Below w5.heap.size w5 w' → Seq Elem.u64s w' sv1 (U.take kq) ∧ Seq Elem.u64s w' sv2 (U.drop (kq + 1))) :=
                  Lib.hid fun w' hb => by
                    have qs := (R5.out.grew hb).vec.seq
                    exact ⟨hq1 _ _ qs (by omega), hq2 _ _ qs⟩
                clear hi1 hq1 hi2 hq2
                go_region_law (first
                  | (refine step_append_vec (E := Elem.u64s) rfl (.tmp 216) (.tmp 219) 38 rfl 22 i0 (.int .u64 0) 8 Try.underlying38 hi hz0 hz1 hz2 rfl (.slice (some ⟨w5.heap.size, 0, none⟩) 0 0) sv1 [] (U.take kq) ?_ ?_ ?_ ?_ ?_ ?_ ?_
                     · go_simp
                     · go_simp
                     · first | exact Vec.newAt w5 _ _ rfl | exact (Vec.newAt w5 _ _ rfl).drew | exact Vec.newAt w5.drew _ _ rfl
                     · first | exact (SQ.out _ ((Below.refl _ w5).alloc (Nat.le_refl _) _)).1 | exact (SQ.out _ ((Below.refl _ w5).alloc (Nat.le_refl _) _).drew).1 | exact (SQ.out _ ((Below.refl _ w5).drew.alloc (Nat.le_refl _) _)).1
                     · simp only [maxLen, List.length_nil]; omega
                     · simp only [List.length_nil]; omega
                     intro v1 x1 hv1' hu1' hin1'
                     have B1' : Hid (Below w5.heap.size w5 x1) := Lib.hid (by
                       refine Below.trans ?_ (hu1'.below (B := w5.heap.size) (fun k hk => by have := in_at hk; omega) ?_)
                       · first | exact (Below.refl _ w5).alloc (Nat.le_refl _) _ | exact ((Below.refl _ w5).alloc (Nat.le_refl _) _).drew | exact (Below.refl _ w5).drew.alloc (Nat.le_refl _) _
                       · first | exact ((Below.refl _ w5).alloc (Nat.le_refl _) _).size | exact ((Below.refl _ w5).drew.alloc (Nat.le_refl _) _).size)
                     have N1' : Hid (∀ k, In v1 k → w5.heap.size ≤ k) := Lib.hid (fun k hk => by rcases hin1' k hk with x | x; (have := in_at x; omega); (simp at x; omega))
                     have V1' := Lib.hid hv1'
                     clear hv1' hu1' hin1')
                  | (refine step_append_vec (E := Elem.u64s) rfl (.tmp 220) (.tmp 224) 38 rfl 22 i0 (.int .u64 0) 8 Try.underlying38 hi hz0 hz1 hz2 rfl v1 sv2 ([] ++ U.take kq) (U.drop (kq + 1)) ?_ ?_ V1'.out (SQ.out _ B1'.out).2 ?_ ?_ ?_
                     · go_simp
                     · go_simp
                     · simp only [maxLen, List.nil_append]; omega
                     · simp only [List.nil_append]; omega
                     intro v2 x2 hv2' hu2' hin2'
                     have B2' := Lib.hid (below_in B1'.out B1'.out.size N1'.out hu2')
                     have V2' := Lib.hid hv2'
                     have N2' : Hid (∀ k, In v2 k → w5.heap.size ≤ k) := Lib.hid (fun k hk => by rcases hin2' k hk with x | x; exact N1'.out k x; exact Nat.le_trans B1'.out.size x)
                     clear hv2' hu2' hin2'))
                all_goals
                  clear hs1 hs2 hwq
                  go_wp2_with fail
                  go_meet
                  have hv2 := V2'.out
                  rw [List.nil_append] at hv2
                  refine ⟨_, _, _, _, U5.out.row B2'.out (fun b x => Or.inl x) (fun b hb => ?_), ⟨hv2, fun b hb => Nat.le_trans K5.out (N2'.out b hb)⟩, ?_, ?_⟩
                  · rcases hb with x | x
                    · exact Or.inl x
                    · exact Or.inr ⟨N2'.out b x, hv2.lt x⟩
                  · show S.ct + 1 ≤ _; omega
                  · show S.ca + 1 + 1 ≤ _; omega
            · as_aux_lemma =>
                have k4 : (kd == (4 : Int)) = false := by rw [hk]; decide
                have k5 : (kd == (5 : Int)) = false := by rw [hk]; decide
                have k6 : (kd == (6 : Int)) = false := by rw [hk]; decide
                subst hk
                by_cases hz0 : z = 0
                · have tz : ((z : Int) == 0) = true := by rw [beq_iff_eq]; omega
                  clear hz0
                  go_wp2_with fail
                  exact ⟨⟨j + 1, by omega, by go_num, U, P, L, S, U1.out, R1.out, by omega, by omega⟩, by simp [intOf]; omega⟩
                · have tz : ((z : Int) == 0) = false := by rw [beq_eq_false_iff_ne]; omega
                  have hqz : kq < z := HKQ.out (by omega)
                  obtain ⟨x, hx⟩ : ∃ x, U[kq]? = some x := ⟨U[kq]'(by rw [ZZ.out]; omega), List.getElem?_eq_getElem _⟩
                  have hxU := List.mem_of_getElem? hx
                  have hperm := drop_perm hx
                  obtain ⟨bv, ov, rfl, _⟩ := R1.out.vec.seq.elem hx
                  have y0 := R1.out.cell hx
                  have q0 : (0 : Int) ≤ (kq : Int) := by omega
                  have q1 : (kq : Int) < (z : Int) := by omega
                  have hv1 : z ≤ cv := hc1
                  have GG := Lib.hid (given_three U1.out FT.out (by omega) hxU)
                  have HX := Lib.hid hx
                  clear hx hxU hperm hz0
                  go_wp2_with fail
                  refine GG.out.mono ?_; rintro e w5 ⟨rfl, L5, hh, hu⟩
                  have U5 := Lib.hid hh
                  have R5 := Lib.hid (R1.out.upd hu (fun b hb => by rcases hb with x | x; exact OB.out b x; (rw [x]; exact Nat.lt_succ_self _)))
                  have m0 : w5.cell? ⟨bc, 0, none⟩ = some (.int .i64 3) := (BA.out.upd hu (fun x => by rcases x with x | x; exact BCA.out.1 (Or.inl x); exact BCA.out.2 x)).cell 0
                  have K5 : Hid (q + 1 ≤ w5.heap.size) := Lib.hid (Nat.le_trans K1s.out hu.size)
                  clear hh hu y0 m1 m2
                  go_wp2_with fail
                  go_meet
                  exact ⟨_, _, _, _, U5.out, R5.out, by show S.ct ≤ _; omega, by show S.ca + 1 + 1 ≤ _; omega⟩
            · as_aux_lemma =>
                have k4 : (kd == (4 : Int)) = false := by rw [beq_eq_false_iff_ne]; omega
                have k5 : (kd == (5 : Int)) = false := by rw [beq_eq_false_iff_ne]; omega
                have k6 : (kd == (6 : Int)) = false := by rw [beq_eq_false_iff_ne]; omega
                have k1 : decide ((1 : Int) ≤ kd) = false := decide_eq_false (by omega)
                clear hk
                have AC := Lib.hid (pb_alloc U1.out)
                have RAC : Hid (∀ V L' w1, PB w C pp p g O nb c q (fun b => O b ∨ In (.slice av z cv) b) V P L' (allocP S).1 S P w1 → Calls Try.prog 23 #[.pointer (some ⟨q, 0, none⟩)] w1 fun e w2 => e = .returned (.tuple #[.int .u64 ((allocP S).2.1 : Int), .int .i64 (allocP S).2.2]) ∧ PB w C pp p g O nb c q (fun b => O b ∨ In (.slice av z cv) b) V P L' (allocP S).1 (allocP S).1 P w2 ∧ Upd (fun b => b = q) w1 w2) := Lib.hid fun V L' w1 h1 => pb_ralloc h1 FT.out (refill_u64 U1.out.good)
                have hcts := alloc_counts S
                have hee : (allocP S).2.2 = 0 ∨ (allocP S).2.2 = 4 := by unfold allocP; split; exact Or.inr rfl; exact Or.inl rfl
                obtain ⟨⟨SA, XA, EA⟩, hE⟩ : ∃ z, allocP S = z := ⟨_, rfl⟩
                rw [hE] at AC RAC hcts hee
                simp only [] at AC RAC hcts hee
                have CT := Lib.hid hcts
                have tx : ((XA : Int) != (XA : Int)) = false := by simp
                clear hE hcts
                rcases hee with rfl | rfl
                · rw [show gotU U (SA, XA, 0) = U ++ [XA] from if_pos rfl] at AC
                  go_wp2_with fail
                  refine AC.out.mono ?_; rintro e w6 ⟨L6, rfl, hh, hu⟩
                  have U6 := Lib.hid hh; have R6 := Lib.hid (R1.out.upd hu OB.out)
                  have K6 : Hid (q + 1 ≤ w6.heap.size) := Lib.hid (Nat.le_trans K1s.out hu.size)
                  clear hh hu
                  go_wp2_with fail
                  refine (RAC.out _ _ _ U6.out).mono ?_; rintro e w7 ⟨rfl, hh, hu⟩
                  have U7 := Lib.hid hh; have R7 := Lib.hid (R6.out.upd hu (fun b hb => by rw [hb]; exact Nat.lt_succ_self _))
                  have K7 : Hid (q + 1 ≤ w7.heap.size) := Lib.hid (Nat.le_trans K6.out hu.size)
                  clear hh hu
                  go_wp2_with (at_builtin; first
                    | (refine wpList_append_vec (E := Elem.u64s) rfl (.tmp 98) (.tmp 100) 38 rfl 22 i0 (.int .u64 0) 8 Try.underlying38 hi hz0 hz1 hz2 rfl (.slice av z cv) (.slice (some ⟨w7.heap.size, 0, none⟩) 1 1) U [XA] rfl rfl (R7.out.alloc _).vec (u64_oneAt w7 22 XA _ rfl) ?_ ?_ ?_
                       · rw [ZZ.out]; simp only [maxLen, List.length_cons, List.length_nil]; omega
                       · rw [ZZ.out]; simp only [List.length_cons, List.length_nil]; omega
                       intro v8 w8 hv hu hin
                       have M8 : Hid (ActsAt w C pp p g O nb c q (j + 1) v8 w8) := Lib.hid (by
                         refine ⟨_, _, _, _, (U7.out.alloc (.cells #[.int .u64 (XA : Int)] 22)).app hu hin (fun b hb => hv.lt hb) (fun b hb => by have h1 := R7.out.far b hb; have h2 := U7.out.hq; omega), (R7.out.alloc _).app (by rw [World.size_alloc]; have := K7.out; omega) hv hin, ?_, ?_⟩
                         · rw [CT.out.1]; omega
                         · rw [CT.out.2]; omega)
                       clear hv hu hin))
                  go_meet
                  exact M8.out
                · rw [show gotU U (SA, XA, 4) = U from if_neg (show ¬ (4 : Int) = 0 by decide)] at AC
                  go_wp2_with fail
                  refine AC.out.mono ?_; rintro e w6 ⟨L6, rfl, hh, hu⟩
                  have U6 := Lib.hid hh; have R6 := Lib.hid (R1.out.upd hu OB.out)
                  clear hh hu
                  go_wp2_with fail
                  refine (RAC.out _ _ _ U6.out).mono ?_; rintro e w7 ⟨rfl, hh, hu⟩
                  have U7 := Lib.hid hh; have R7 := Lib.hid (R6.out.upd hu (fun b hb => by rw [hb]; exact Nat.lt_succ_self _))
                  clear hh hu
                  go_wp2_with fail
                  go_meet
                  exact ⟨_, _, _, _, U7.out, R7.out, by rw [CT.out.1]; omega, by rw [CT.out.2]; omega⟩
            · as_aux_lemma =>
                have k4 : (kd == (4 : Int)) = false := by rw [beq_eq_false_iff_ne]; omega
                have k5 : (kd == (5 : Int)) = false := by rw [beq_eq_false_iff_ne]; omega
                have k6 : (kd == (6 : Int)) = false := by rw [beq_eq_false_iff_ne]; omega
                have k1 : decide ((1 : Int) ≤ kd) = true := decide_eq_true (by omega)
                have k3 : decide (kd ≤ (3 : Int)) = false := decide_eq_false (by omega)
                clear hk
                have AC := Lib.hid (pb_alloc U1.out)
                have RAC : Hid (∀ V L' w1, PB w C pp p g O nb c q (fun b => O b ∨ In (.slice av z cv) b) V P L' (allocP S).1 S P w1 → Calls Try.prog 23 #[.pointer (some ⟨q, 0, none⟩)] w1 fun e w2 => e = .returned (.tuple #[.int .u64 ((allocP S).2.1 : Int), .int .i64 (allocP S).2.2]) ∧ PB w C pp p g O nb c q (fun b => O b ∨ In (.slice av z cv) b) V P L' (allocP S).1 (allocP S).1 P w2 ∧ Upd (fun b => b = q) w1 w2) := Lib.hid fun V L' w1 h1 => pb_ralloc h1 FT.out (refill_u64 U1.out.good)
                have hcts := alloc_counts S
                have hee : (allocP S).2.2 = 0 ∨ (allocP S).2.2 = 4 := by unfold allocP; split; exact Or.inr rfl; exact Or.inl rfl
                obtain ⟨⟨SA, XA, EA⟩, hE⟩ : ∃ z, allocP S = z := ⟨_, rfl⟩
                rw [hE] at AC RAC hcts hee
                simp only [] at AC RAC hcts hee
                have CT := Lib.hid hcts
                have tx : ((XA : Int) != (XA : Int)) = false := by simp
                clear hE hcts
                rcases hee with rfl | rfl
                · rw [show gotU U (SA, XA, 0) = U ++ [XA] from if_pos rfl] at AC
                  go_wp2_with fail
                  refine AC.out.mono ?_; rintro e w6 ⟨L6, rfl, hh, hu⟩
                  have U6 := Lib.hid hh; have R6 := Lib.hid (R1.out.upd hu OB.out)
                  have K6 : Hid (q + 1 ≤ w6.heap.size) := Lib.hid (Nat.le_trans K1s.out hu.size)
                  clear hh hu
                  go_wp2_with fail
                  refine (RAC.out _ _ _ U6.out).mono ?_; rintro e w7 ⟨rfl, hh, hu⟩
                  have U7 := Lib.hid hh; have R7 := Lib.hid (R6.out.upd hu (fun b hb => by rw [hb]; exact Nat.lt_succ_self _))
                  have K7 : Hid (q + 1 ≤ w7.heap.size) := Lib.hid (Nat.le_trans K6.out hu.size)
                  clear hh hu
                  go_wp2_with (at_builtin; first
                    | (refine wpList_append_vec (E := Elem.u64s) rfl (.tmp 98) (.tmp 100) 38 rfl 22 i0 (.int .u64 0) 8 Try.underlying38 hi hz0 hz1 hz2 rfl (.slice av z cv) (.slice (some ⟨w7.heap.size, 0, none⟩) 1 1) U [XA] rfl rfl (R7.out.alloc _).vec (u64_oneAt w7 22 XA _ rfl) ?_ ?_ ?_
                       · rw [ZZ.out]; simp only [maxLen, List.length_cons, List.length_nil]; omega
                       · rw [ZZ.out]; simp only [List.length_cons, List.length_nil]; omega
                       intro v8 w8 hv hu hin
                       have M8 : Hid (ActsAt w C pp p g O nb c q (j + 1) v8 w8) := Lib.hid (by
                         refine ⟨_, _, _, _, (U7.out.alloc (.cells #[.int .u64 (XA : Int)] 22)).app hu hin (fun b hb => hv.lt hb) (fun b hb => by have h1 := R7.out.far b hb; have h2 := U7.out.hq; omega), (R7.out.alloc _).app (by rw [World.size_alloc]; have := K7.out; omega) hv hin, ?_, ?_⟩
                         · rw [CT.out.1]; omega
                         · rw [CT.out.2]; omega)
                       clear hv hu hin))
                  go_meet
                  exact M8.out
                · rw [show gotU U (SA, XA, 4) = U from if_neg (show ¬ (4 : Int) = 0 by decide)] at AC
                  go_wp2_with fail
                  refine AC.out.mono ?_; rintro e w6 ⟨L6, rfl, hh, hu⟩
                  have U6 := Lib.hid hh; have R6 := Lib.hid (R1.out.upd hu OB.out)
                  clear hh hu
                  go_wp2_with fail
                  refine (RAC.out _ _ _ U6.out).mono ?_; rintro e w7 ⟨rfl, hh, hu⟩
                  have U7 := Lib.hid hh; have R7 := Lib.hid (R6.out.upd hu (fun b hb => by rw [hb]; exact Nat.lt_succ_self _))
                  clear hh hu
                  go_wp2_with fail
                  go_meet
                  exact ⟨_, _, _, _, U7.out, R7.out, by rw [CT.out.1]; omega, by rw [CT.out.2]; omega⟩
          case rest =>
            obtain ⟨U2, P2, L2, S2, hu2, hr2, hc3, hc4⟩ := hcut
            obtain ⟨av2, cv2, rfl, hd1, hd2⟩ := hr2.slice
            obtain ⟨z2, hz2'⟩ : ∃ z, U2.length = z := ⟨_, rfl⟩
            rw [hz2'] at hr2 hu2 hd1 ⊢
            have U2' := Lib.hid hu2; have R2 := Lib.hid hr2; have ZZ2 := Lib.hid hz2'
            have RO := Lib.hid (rows_any hu2 (by omega))
            clear hr2 hu2 U1 R1 HU HR m0 m1 m2 hz1024 hct hca hc1 hc2 ZZ BA BCA FT hqs hz2'
            go_wp2_with fail
            refine RO.out.mono ?_; rintro e w6 ⟨rfl, hb⟩
            have U6 := Lib.hid (U2'.out.grew hb); have R6 := Lib.hid (R2.out.grew hb)
            clear hb
            go_wp2_with fail
            exact ⟨⟨j + 1, by omega, by go_num, U2, P2, L2, S2, U6.out, R6.out, hc3, hc4⟩, by simp [intOf]; omega⟩
      · have t2 : decide ((j : Int) < (len : Int)) = false := decide_eq_false (by omega)
        have hbl := hu.has.below
        clear hu
        go_wp2
        go_ret
        exact ⟨rfl, hbl⟩
  · have hmay' : mayP f s n 16384 = false := by cases h : mayP f s n 16384 with | true => exact absurd h hmay | false => rfl
    rw [hmay'] at MY
    have NW := Lib.hid (C.new_bad w2 B2.out M2.out HFS.out HSS.out HNN.out (by rw [LN.out]; exact hmay'))
    unfold runV at NW
    clear hmay hmay'
    go_wp2_with fail
    refine NW.out.mono ?_; rintro e w3 ⟨rfl, hb⟩
    have k3 := K2.out.grew hb
    have B3 := Lib.hid (below_then B2.out B2.out.size hb)
    clear r0 r1 r2
    have r0 : w3.cell? ⟨br, 0, none⟩ = some (.int .u64 (f : Int)) := k3.cell 0
    have r1 : w3.cell? ⟨br, 1, none⟩ = some (.int .u64 (s : Int)) := k3.cell 1
    have r2 : w3.cell? ⟨br, 2, none⟩ = some (.int .i64 n) := k3.cell 2
    clear hb k3
    go_wp2_with fail
    refine (MY.out _).mono ?_; rintro e w4 ⟨rfl, hb⟩
    have B4 := Lib.hid (below_then B3.out B3.out.size hb)
    clear hb r0 r1 r2
    go_wp2
    go_ret
    exact ⟨rfl, B4.out⟩
set_option maxRecDepth 100000 in
set_option maxHeartbeats 2000000 in
theorem walk_of (w : World) (C : PgC w) (f : Int) (h1 : (Lit.int .u64 f).wf = true) (s : Int) (h2 : (Lit.int .u64 s).wf = true) (n : Int) (h3 : (Lit.int .i64 n).wf = true) {a : Option Addr} {k cap : Nat} (len : Nat) (F : Nat → Nat → Value) (h : Recs w (.slice a k cap) [.num .i64, .num .i64, .num .u64] len F) :
    Calls Try.prog 3 #[.agg #[.int .u64 f, .int .u64 s, .int .i64 n], .slice a k cap] w fun e w' => e = .returned (.bool true) ∧ Below w.heap.size w w' := by
  obtain ⟨rfl, _, _⟩ := h.len
  obtain ⟨e1, b1⟩ := u64_bd9 h1
  obtain ⟨e2, b2⟩ := u64_bd9 h2
  have b3 := i64_bd9 h3
  obtain ⟨f', hf'⟩ : ∃ x, f.toNat = x := ⟨_, rfl⟩
  obtain ⟨s', hs'⟩ : ∃ x, s.toNat = x := ⟨_, rfl⟩
  rw [hf'] at e1 b1; rw [hs'] at e2 b2
  subst e1 e2
  by_cases hl : k ≤ 100
  · exact walk_short w C f' s' n b1 b2 ⟨by omega, by omega⟩ F h hl
  have t0 : decide ((100 : Int) < (k : Int)) = true := decide_eq_true (by omega)
  clear h hl
  have hw0 := (Below.refl w.heap.size w).alloc (Nat.le_refl _) (.cells #[.int .u64 (f' : Int), .int .u64 (s' : Int), .int .i64 n] 24)
  have BW0 := Lib.hid hw0
  have AL := Lib.hid (alive_any _ (C.up hw0))
  clear hw0
  go_enter Try.func3, Try.ntmps3
  go_wp2_with fail
  refine AL.out.mono ?_; rintro e w1 ⟨rfl, hb⟩
  have B1 := Lib.hid (below_then BW0.out BW0.out.size hb)
  clear hb
  go_wp2
  go_ret
  exact ⟨rfl, B1.out⟩
end Go.Proofs.Ytlnlipjnljbegaa.pageActs
