/- The law SegFills, walked. -/
import Derived.Test.YtomepdgddpajoaaDoorAliveS
import Derived.Test.YtomepdgddpajoaaDoorSegMath2
namespace Go.Proofs.YtomepdgddpajoaaDoor.segFills
open Go.RowKit ListMath PageMath GeoMath SegMath ClassMath
set_option linter.unusedVariables false

theorem u8_bd {n : Int} (h : (Lit.int .u8 n).wf = true) : 0 ≤ n ∧ n ≤ 255 := by
  simp [Lit.wf, IntKind.min, IntKind.max, IntKind.signed, IntKind.bits] at h; omega
theorem rows_of : ∀ wd : Fin 5, 1 ≤ wd.1 → ∀ j : Fin 16, j.1 * wd.1 ≤ 15 → (j.1 * wd.1 + wd.1 ≤ 15 → MarkMath.low (MarkMath.setAt newK 1 (j.1 * wd.1) true) wd.1 = some (1 + j.1 * wd.1) ∧ MarkMath.setAt (MarkMath.setAt newK 1 (j.1 * wd.1) true) (1 + j.1 * wd.1) wd.1 true = MarkMath.setAt newK 1 ((j.1 + 1) * wd.1) true) ∧ (15 < j.1 * wd.1 + wd.1 → MarkMath.low (MarkMath.setAt newK 1 (j.1 * wd.1) true) wd.1 = none) := by decide
theorem rows_at {wd j : Nat} (h1 : 1 ≤ wd) (h4 : wd ≤ 4) (hj : j < 16) (hjw : j * wd ≤ 15) : (j * wd + wd ≤ 15 → MarkMath.low (MarkMath.setAt newK 1 (j * wd) true) wd = some (1 + j * wd) ∧ MarkMath.setAt (MarkMath.setAt newK 1 (j * wd) true) (1 + j * wd) wd true = MarkMath.setAt newK 1 ((j + 1) * wd) true) ∧ (15 < j * wd + wd → MarkMath.low (MarkMath.setAt newK 1 (j * wd) true) wd = none) := rows_of ⟨wd, by omega⟩ h1 ⟨j, hj⟩ hjw
theorem k_empty {X : SG} (g : GoodG X) (h : X.L = []) : X.K = newK := by
  refine MarkMath.ext_getD g.len fun j hj => ?_
  have hj16 : j < 16 := by rw [← g.len]; exact hj
  have hm := g.mark j hj16
  rw [h] at hm
  rw [MarkMath.getD_def hj false true]
  have e : ∀ j : Nat, j < 16 → (newK.getD j false = decide (j = 0)) := by decide
  rw [e j hj16]
  by_cases h0 : j = 0
  · rw [decide_eq_true h0]; exact hm.2 (.inl h0)
  · rw [decide_eq_false h0]
    cases hk : X.K.getD j true with
    | false => rfl
    | true =>
      rcases hm.1 hk with x | ⟨o, ho, _⟩
      · exact absurd x h0
      · cases ho
theorem low_all : MarkMath.low newK 15 = some 1 := by decide
theorem left_all : MarkMath.left (MarkMath.setAt newK 1 15 true) = 0 := by decide
theorem cut_first {X : SG} (g : GoodG X) {o : OwR} {t : List OwR} (h : X.L = o :: t) : (X.cut o).L = t := by
  show X.L.filter _ = t
  have hr := g.rise
  rw [h] at hr ⊢
  obtain ⟨h1, _⟩ := List.pairwise_cons.1 hr
  have hw := (g.fit o (by rw [h]; exact List.mem_cons_self ..)).2.1
  rw [List.filter_cons_of_neg (by simp)]
  exact filter_all fun y hy => by have := h1 y hy; simp; omega
def FillR (w : World) (C : SgC w) (sp p g : Nat) (c : Addr) (L : List Nat) (wd : Nat) (i : Value) (wr : World) : Prop :=
  ∃ (j : Nat) (I : Nat → Prop) (X : SG), j ≤ 15 ∧ j * wd ≤ 15 ∧ i = .int .i64 (j : Int) ∧ OSg C sp p g I c L X wr ∧ X.K = MarkMath.setAt newK 1 (j * wd) true ∧ (∀ o ∈ X.L, ∃ f s n, o.P = newPG f s n)
def DropR (w : World) (C : SgC w) (sp p g : Nat) (c : Addr) (L : List Nat) (v : Value) (l : List OwR) (i : Value) (wr : World) : Prop :=
  ∃ (t : Nat) (I : Nat → Prop) (X : SG), t ≤ l.length ∧ i = .int .i64 (t : Int) ∧ OSg C sp p g I c L X wr ∧ X.L = l.drop t ∧ Seq Elem.ptrs wr v (l.map fun o => some ⟨o.op, 0, none⟩) ∧ ∀ b, In v b → ¬ SO p g I X b
set_option maxHeartbeats 8000000 in
set_option maxRecDepth 100000 in
theorem walk_of (w : World) (C : SgC w) (n : Int) (h1 : (Lit.int .u8 n).wf = true) :
    Calls Tryd.prog 6 #[.int .u8 n] w fun e w' => e = .returned (.bool true) ∧ Below w.heap.size w w' := by
  have b1 := u8_bd h1
  obtain ⟨n, rfl⟩ := Int.eq_ofNat_of_zero_le b1.1
  have b1' : n ≤ 255 := by omega
  obtain ⟨cc, hc⟩ : ∃ c, n % 12 = c := ⟨_, rfl⟩
  have hc1 : cc < 12 := by omega
  have hm1 : Int.tmod (n : Int) 12 = (cc : Int) := by rw [← hc]; exact (Int.ofNat_tmod _ _).symm
  have hm2 : (n : Int) % 12 = (cc : Int) := by omega
  have z2 := slices_bounds hc1
  obtain ⟨wd, hwd⟩ : ∃ wd, slicesAt cc = wd := ⟨_, rfl⟩
  rw [hwd] at z2
  have HW := Lib.hid hwd
  have HA := Lib.hid (alive_s w C)
  clear h1 b1 hc hwd
  go_enter Tryd.func6, Tryd.ntmps6
  go_wp2_with fail
  refine HA.out.mono ?_; rintro e w1 ⟨rfl, hb⟩
  have B1 := Lib.hid hb; clear hb
  go_wp2_with fail
  refine (newMem 65536 (by decide) (by decide) (by decide) _).mono ?_; rintro e w2 ⟨p, g, L0, rfl, hm, hlen, fp, fg, hb⟩
  have M2 := Lib.hid hm; have B2 := Lib.hid (below_then B1.out B1.out.size hb); have N2 := Lib.hid hlen
  have fp' := Nat.le_trans B1.out.size fp; have fg' := Nat.le_trans B1.out.size fg
  clear hm hlen hb fp fg
  go_wp2_with fail
  refine (os_new (C := C) (pl := 3) B2.out M2.out fp' fg' N2.out (by decide)).mono ?_; rintro e w3 ⟨sp, c, I, rfl, hh, _, _⟩
  have I0 := Lib.hid (show FillR w C sp p g c L0 wd (.int .i64 0) w3 from ⟨0, I, _, Nat.zero_le _, by rw [Nat.zero_mul]; decide, rfl, hh, by rw [Nat.zero_mul, MarkMath.setAt_none]; rfl, (by intro o ho; cases ho)⟩)
  clear hh fp' fg'
  go_wp2
  go_loopw [8] (fun i wr => FillR w C sp p g c L0 wd i wr) (fun i _ => 16 - (intOf i).toNat)
  case atStart => exact I0.out
  case round =>
    clear I0
    obtain ⟨j, I1, X, hj, hjw, rfl, ho, hK, hfr⟩ := hrel
    obtain ⟨r1, r2⟩ := rows_at z2.1 z2.2 (show j < 16 by omega) hjw
    have HO := Lib.hid ho; have HK := Lib.hid hK; have HFR := Lib.hid hfr
    clear ho hK hfr
    obtain ⟨jw, hjwe⟩ : ∃ jw, j * wd = jw := ⟨_, rfl⟩
    rcases Nat.lt_or_ge 15 (jw + wd) with hfull | hroom
    · -- no room
      have hl : MarkMath.low X.K (slicesAt cc) = none := by rw [HW.out, HK.out]; exact r2 (by rw [hjwe]; exact hfull)
      have HL := Lib.hid (os_page_full HO.out hc1 hl)
      have hj3 : 3 ≤ j := by
        rcases Nat.lt_or_ge j 3 with x | x
        · exfalso
          have h4 : j * wd ≤ 2 * 4 := Nat.mul_le_mul (by omega) z2.2
          omega
        · exact x
      have t3 : decide ((3 : Int) ≤ (j : Int)) = true := decide_eq_true (by omega)
      have t3' : decide (3 ≤ j) = true := decide_eq_true hj3
      clear r1 r2 hl hjwe hfull hjw
      go_wp2_with fail
      refine HL.out.mono ?_; rintro e w4 ⟨rfl, hh, _⟩
      have H4 := Lib.hid hh; clear hh HL
      go_wp2_with fail
      refine (os_pages H4.out).mono ?_; rintro e w5 ⟨a, k, cap, rfl, hq, q2, q3, hin, hh, hb⟩
      have hk : k = X.L.length := by have := hq.len; rw [List.length_map] at this; exact this
      subst hk
      have hne : ∀ b, In (.slice a X.L.length cap) b → ¬ SO p g I1 X b := fun b hb x => by have h1 := hin b hb; have h2 := H4.out.sg.lt x; omega
      have J0 := Lib.hid (show DropR w C sp p g c L0 (.slice a X.L.length cap) X.L (.int .i64 0) w5 from ⟨0, I1, X, Nat.zero_le _, rfl, hh, rfl, hq, hne⟩)
      obtain ⟨l, hl⟩ : ∃ l, X.L = l := ⟨_, rfl⟩
      rw [hl] at J0 HFR ⊢
      obtain ⟨N, hN⟩ : ∃ N, l.length = N := ⟨_, rfl⟩
      have HN := Lib.hid hN
      have hN16 : N ≤ 15 := by have := HO.out.sg.good.count; rw [hl, hN] at this; exact this
      rw [hN] at J0 ⊢
      clear hh hb hq hin hne hl hN HO HK H4 q2 q3
      go_wp2
      go_loopw [72] (fun i wr => DropR w C sp p g c L0 (.slice a N cap) l i wr) (fun i _ => N - (intOf i).toNat)
      case atStart => exact J0.out
      case round =>
        clear J0
        obtain ⟨t, I2, Y, ht, rfl, ho, hL, hq, hne⟩ := hrel
        rw [HN.out] at ht
        by_cases htN : t < N
        · have htl : t < l.length := by rw [HN.out]; exact htN
          obtain ⟨o, hoe⟩ : ∃ o, l[t]? = some o := ⟨l[t]'htl, List.getElem?_eq_getElem _⟩
          have hdrop : l.drop t = o :: l.drop (t + 1) := by
            obtain ⟨_, e⟩ := List.getElem?_eq_some_iff.1 hoe
            rw [List.drop_eq_getElem_cons htl, e]
          rw [hdrop] at hL
          have hoY : o ∈ Y.L := by rw [hL]; exact List.mem_cons_self ..
          have hol : o ∈ l := List.mem_of_getElem? hoe
          obtain ⟨f0, s0, n0, hP⟩ := HFR.out o hol
          have hd : dropE Y (o.lo : Int) = (Y.cut o, 0) := by
            unfold dropE
            rw [ho.sg.good.atS_of hoY]
            simp only []
            rw [if_neg (by rw [hP]; exact Nat.lt_irrefl 0)]
          have hcut := cut_first ho.sg.good hL
          have hfit := ho.sg.good.fit o hoY
          have HD := Lib.hid (os_drop ho (n := (o.lo : Int)) ⟨by omega, by omega⟩)
          rw [hd] at HD
          have d2 : wr.cell? ⟨o.op, 2, none⟩ = some (.int .i64 (o.lo : Int)) := ho.c2 hoY
          obtain ⟨b, off, ea, hcell⟩ := hq.elem (show (l.map fun o => some (⟨o.op, 0, none⟩ : Addr))[t]? = some (some ⟨o.op, 0, none⟩) by rw [List.getElem?_map, hoe]; rfl)
          have d0 : wr.cell? ⟨b, off + t, none⟩ = some (.pointer (some ⟨o.op, 0, none⟩)) := by
            have h0 := hcell 0 (.pointer (some ⟨o.op, 0, none⟩)) rfl
            simpa [Elem.ptrs] using h0
          have hbl : b < wr.heap.size := World.block_lt_of_cell? wr _ d0
          subst ea
          have hnb := hne b rfl
          have HQ := Lib.hid hq; have HNE := Lib.hid hne; have HCUT := Lib.hid hcut
          have t1 : decide ((t : Int) < (N : Int)) = true := decide_eq_true (by omega)
          have t1' : decide (t < N) = true := decide_eq_true htN
          have p0 : (0 : Int) ≤ (t : Int) := by omega
          have p1 : (t : Int) < (N : Int) := by omega
          obtain ⟨oo, hoo⟩ : ∃ x, o.op = x := ⟨_, rfl⟩
          obtain ⟨ol, hol2⟩ : ∃ x, o.lo = x := ⟨_, rfl⟩
          rw [hoo] at d0 d2
          rw [hol2] at d2 HD
          clear hL hq hne hd hdrop hoe hcell hcut hol hP hfit hoY ho
          go_wp2_with fail
          refine HD.out.mono ?_; rintro e w6 ⟨I3, rfl, hh, hg, hu⟩
          have J1 : Hid (DropR w C sp p g c L0 (.slice (some ⟨b, off, none⟩) N cap) l (.int .i64 ((t : Int) + 1)) w6) := Lib.hid ⟨t + 1, I3, _, by rw [HN.out]; omega, by rw [show ((t + 1 : Nat) : Int) = (t : Int) + 1 by omega], hh, HCUT.out, HQ.out.upd hu (fun x hx => HNE.out x hx), fun x hx y => by
            cases hx
            rcases hg b y with z | z
            · exact hnb z
            · omega⟩
          clear hh hg hu
          go_wp2
          go_roundw
          case rel => exact J1.out
          case measure => simp [intOf]; omega
        · obtain rfl : t = N := by omega
          have t1 : decide ((t : Int) < (t : Int)) = false := decide_eq_false (by omega)
          have hem : Y.L = [] := by rw [hL]; exact List.drop_eq_nil_of_le (by rw [HN.out]; exact Nat.le_refl _)
          have hKe := k_empty ho.sg.good hem
          have HBG := Lib.hid (os_big ho (n := 15) (a := 1) (by decide) (by decide) (by rw [hKe]; exact low_all))
          have HKE := Lib.hid hKe
          clear ho hL hq hne hem hKe
          go_wp2_with fail
          refine HBG.out.mono ?_; rintro e w6 ⟨op, pp, I3, rfl, hh, _, _, _, _⟩
          obtain ⟨fr, hfr⟩ : ∃ fr, fromS Y.pl 1 = fr := ⟨_, rfl⟩
          have m1 : (⟨op, pp, -1, 1, 15, newPG fr (15 * 1024) 1⟩ : OwR) ∈ (Y.add op pp (-1) 1 15 1 (15 * 1024)).L := by rw [← hfr]; exact insR_mem.2 (.inl rfl)
          have MM := Lib.hid m1
          have H6 := Lib.hid hh
          have c0 : w6.cell? ⟨op, 0, none⟩ = some (.pointer (some ⟨pp, 0, none⟩)) := hh.c0 m1
          have rr : Calls Tryd.prog 31 #[.pointer (some ⟨pp, 0, none⟩)] w6 fun e w2 => e = .returned (.agg #[.int .u64 (fr : Int), .int .u64 15360, .int .i64 1]) ∧ OSg C sp p g I3 c L0 (Y.add op pp (-1) 1 15 1 (15 * 1024)) w2 ∧ Below w6.heap.size w6 w2 := hh.run m1
          have RR := Lib.hid rr
          have RS : ∀ w, (Instr.field 68 (.agg #[.int .u64 (fr : Int), .int .u64 15360, .int .i64 1]) 1).run Tryd.prog w = .ok (.int .u64 15360) w := run_s fr 15360 1
          clear hh hfr m1 rr
          go_wp2_with fail
          refine RR.out.mono ?_; rintro e w7 ⟨rfl, hh, _⟩
          have hlf := os_left hh
          have eK : (Y.add op pp (-1) 1 15 1 (15 * 1024)).K = MarkMath.setAt newK 1 15 true := by
            show MarkMath.setAt Y.K 1 15 true = _
            rw [HKE.out]
          rw [eK, left_all] at hlf
          have LF := Lib.hid hlf
          clear hh hlf eK
          go_wp2_with fail
          refine LF.out.mono ?_; rintro e w8 ⟨rfl, hh, _⟩
          have H8 := Lib.hid hh
          clear hh
          go_wp2
          go_ret
          exact ⟨rfl, H8.out.below⟩
    · -- one more page
      obtain ⟨r3, r4⟩ := r1 (by rw [hjwe]; exact hroom)
      have hl : MarkMath.low X.K (slicesAt cc) = some (1 + jw) := by rw [HW.out, HK.out, r3, hjwe]
      have HL := Lib.hid (os_page HO.out hc1 hl)
      rw [HW.out] at HL
      have R4 := Lib.hid r4
      have hj14 : j ≤ 14 := by
        rcases Nat.lt_or_ge j 15 with x | x
        · omega
        · exfalso
          have h4 : 15 * wd ≤ j * wd := Nat.mul_le_mul_right wd x
          omega
      have y1 : (0 : Int) ≤ (j : Int) * (wd : Int) := Int.mul_nonneg (by omega) (by omega)
      have y2 : (j : Int) * (wd : Int) ≤ 15 := by have := Int.ofNat_le.2 hjw; rw [Int.natCast_mul] at this; exact this
      obtain ⟨lo, hlo⟩ : ∃ lo, 1 + jw = lo := ⟨_, rfl⟩
      have t2 : ((lo : Int) != 1 + (j : Int) * (wd : Int)) = false := by
        rw [bne_eq_false_iff_eq, ← hlo, ← hjwe, Int.natCast_add, Int.natCast_mul]; rfl
      have HJW := Lib.hid hjwe; have HLO := Lib.hid hlo; have HJB := Lib.hid hroom
      rw [hlo] at HL
      have t4 : decide ((15 : Int) < (j : Int) + 1) = false := decide_eq_false (by omega)
      clear r1 r2 r3 r4 hl hjwe hroom hjw hlo
      go_wp2_with fail
      refine HL.out.mono ?_; rintro e w4 ⟨op, pp, I2, rfl, hh, _, _, _, _⟩
      have m1 : (⟨op, pp, (cc : Int), lo, wd, newPG (fromS X.pl lo) (sizeAt cc) (blocksAt cc)⟩ : OwR) ∈ (X.add op pp (cc : Int) lo wd (blocksAt cc) (sizeAt cc)).L := insR_mem.2 (.inl rfl)
      have c1 : w4.cell? ⟨op, 1, none⟩ = some (.int .i64 (cc : Int)) := hh.c1 m1
      have c2 : w4.cell? ⟨op, 2, none⟩ = some (.int .i64 (lo : Int)) := hh.c2 m1
      have c3 : w4.cell? ⟨op, 3, none⟩ = some (.int .i64 (wd : Int)) := hh.c3 m1
      have H4 := Lib.hid hh
      clear hh m1
      go_wp2_with fail
      go_quiet (fail)
      go_wp2
      go_roundw
      case rel =>
        refine ⟨j + 1, I2, _, by omega, ?_, by rw [show ((j + 1 : Nat) : Int) = (j : Int) + 1 by omega], (H4.out.grew (below_drewN (Below.refl _ _) _)), ?_, ?_⟩
        · have := HJB.out; have := HJW.out; rw [Nat.add_mul, Nat.one_mul]; omega
        · show MarkMath.setAt X.K lo wd true = _
          rw [HK.out, ← HLO.out, ← HJW.out]; exact R4.out
        · intro o ho
          rcases insR_mem.1 (show o ∈ insR X.L _ from ho) with rfl | ⟨ho, _⟩
          · exact ⟨_, _, _, rfl⟩
          · exact HFR.out o ho
      case measure => simp [intOf]; omega
end Go.Proofs.YtomepdgddpajoaaDoor.segFills
