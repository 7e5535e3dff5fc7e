/- The law SegActs, walked. -/
import Derived.Test.YtomepdgddpajoaaDoorTold10
import Derived.Test.YtomepdgddpajoaaDoorAt10
import Derived.Test.YtomepdgddpajoaaDoorActs10
import Derived.Test.YtomepdgddpajoaaDoorDoS
import Derived.Deep.CutBlock
import Derived.Deep.DeepCutAuto
namespace Go.Proofs.YtomepdgddpajoaaDoor.segActs
open Go.RowKit ListMath PageMath GeoMath SegMath ClassMath
set_option linter.unusedVariables false

/-- Behind so many acts: both, alike. -/
def Al (w : World) (C : SgC w) (sp p g : Nat) (c : Addr) (q mk gm : Nat) (wx : World) : Prop := ∃ (I : Nat → Prop) (L : List Nat) (X Y : SG), TQ w C sp p g I c L X q mk gm Y wx ∧ SameD X Y ∧ Zero X
def ActsR (w : World) (C : SgC w) (sp p g : Nat) (c : Addr) (q mk gm n : Nat) (i : Value) (wr : World) : Prop := ∃ j : Nat, j ≤ n ∧ i = .int .i64 (j : Int) ∧ Al w C sp p g c q mk gm wr
def LookR (w5 : World) (N : Nat) (i : Value) (wr : World) : Prop := ∃ t : Nat, t ≤ N ∧ i = .int .i64 (t : Int) ∧ Below w5.heap.size w5 wr
theorem ta_told {w : World} {C : SgC w} {sp p g : Nat} {I : Nat → Prop} {c : Addr} {L : List Nat} {X : SG} {q mk gm : Nat} {Y : SG} {bc : Nat} {ta : TypeId} {A : Array Value} {w' : World} (h : TA w C sp p g I c L X q mk gm Y bc ta A w') {a b : Option OwR} (ha : ∀ o, a = some o → o ∈ X.L) (hb : ∀ o, b = some o → o ∈ Y.L) (hs : a.map sk = b.map sk) (E : Int) :
    Calls Tryd.prog 17 #[ptrO a, .int .i64 E, ptrO b, .int .i64 E] w' fun e w2 => e = .returned (.bool true) ∧ TQ w C sp p g I c L X q mk gm Y w2 :=
  (told_any h.tq ha hb hs E).mono fun e w2 ⟨k1, k2⟩ => ⟨k1, h.tq.grew k2⟩
set_option maxRecDepth 100000 in
set_option maxHeartbeats 16000000 in
theorem walk_of (w : World) (C : SgC w) (place : Int) (h1 : (Lit.int .i64 place).wf = true) {a : Option Addr} {n cap : Nat} (len : Nat) (F : Nat → Nat → Value) (hr : Recs w (.slice a n cap) [.num .i64, .num .i64, .num .u64] len F) :
    Calls Tryd.prog 3 #[.int .i64 place, .slice a n cap] w fun e w' => e = .returned (.bool true) ∧ Below w.heap.size w w' := by
  obtain ⟨rfl, hn1, hn2⟩ := hr.len
  have b1 := i64_bd9 h1
  have HA := Lib.hid (alive_s w C)
  have HF := Lib.hid hr
  clear h1 hr
  go_enter Tryd.func3, Tryd.ntmps3
  go_wp2_with fail
  refine HA.out.mono ?_; rintro e w1 ⟨rfl, hb⟩
  have B1 := Lib.hid hb; clear hb
  by_cases hl60 : 60 < n
  · have t1 : decide ((60 : Int) < (n : Int)) = true := decide_eq_true (by omega)
    have t1' : decide (60 < n) = true := decide_eq_true hl60
    go_wp2
    go_ret
    exact ⟨rfl, B1.out⟩
  have hn60 : n ≤ 60 := by omega
  have t1 : decide ((60 : Int) < (n : Int)) = false := decide_eq_false (by omega)
  have t1' : decide (60 < n) = false := decide_eq_false hl60
  go_wp2_with fail
  refine (newMem 65536 (by decide) (by decide) (by decide) _).mono ?_; rintro e w2 ⟨p, g, L0, rfl, hm, hlen, fp, fg, hb⟩
  have M2 := Lib.hid hm; have B2 := Lib.hid (below_then B1.out B1.out.size hb); have N2 := Lib.hid hlen
  have fp' := Nat.le_trans B1.out.size fp; have fg' := Nat.le_trans B1.out.size fg
  clear hm hlen hb fp fg t1 t1' hl60
  by_cases hbad : place < 0 ∨ 3 < place
  · have NB := Lib.hid (C.new_bad w2 B2.out M2.out N2.out b1 hbad)
    go_wp2_with fail
    refine NB.out.mono ?_; rintro e w3 ⟨rfl, hb⟩
    have B3 := Lib.hid (below_then B2.out B2.out.size hb)
    clear hb NB fp' fg'
    by_cases h0 : place < 0
    · have t2 : decide (place < 0) = true := decide_eq_true h0
      clear hbad h0
      go_wp2
      go_ret
      exact ⟨rfl, B3.out⟩
    · have t2 : decide (place < 0) = false := decide_eq_false h0
      have t3 : decide ((3 : Int) < place) = true := decide_eq_true (by omega)
      clear hbad h0
      go_wp2
      go_ret
      exact ⟨rfl, B3.out⟩
  obtain ⟨pl, rfl⟩ := Int.eq_ofNat_of_zero_le (show 0 ≤ place by omega)
  have hpl : pl ≤ 3 := by omega
  have t2 : decide ((pl : Int) < 0) = false := decide_eq_false (by omega)
  have t3 : decide ((3 : Int) < (pl : Int)) = false := decide_eq_false (by omega)
  have t3' : decide (3 < pl) = false := decide_eq_false (by omega)
  have t4 : ((pl : Int) != (pl : Int)) = false := by simp
  clear hbad
  go_wp2_with fail
  refine (os_new (C := C) B2.out M2.out fp' fg' N2.out hpl).mono ?_; rintro e w3 ⟨sp, c, I, rfl, hh, _, _⟩
  have H3 := Lib.hid hh
  clear hh fp' fg' M2 N2 hpl
  go_wp2_with fail
  refine (C.place _ H3.out.below H3.out.sg).mono ?_; rintro e w4 ⟨rfl, hb⟩
  have H4 := Lib.hid (H3.out.grew hb)
  rw [show (newSG pl).pl = pl from rfl]
  clear hb
  go_wp2_with fail
  refine (rd_new w4 (SO p g I (newSG pl)) (fun b hb => H4.out.sg.lt hb) pl).mono ?_; rintro e w5 ⟨q, mk, gm, rfl, hk, hlo, hb⟩
  have I0 := Lib.hid (show ActsR w C sp p g c q mk gm n (.int .i64 0) w5 from ⟨0, Nat.zero_le _, rfl, I, L0, newSG pl, newSG pl, ⟨H4.out.grew hb, hk, fun b x => Nat.le_trans H4.out.below.size (hlo b x)⟩, ⟨rfl, rfl, rfl⟩, fun o ho => by cases ho⟩)
  clear hk hlo hb t2 t3 t3' t4 b1 H3 H4 B1 B2 HA
  go_wp2
  go_loopw [76] (fun i wr => ActsR w C sp p g c q mk gm n i wr) (fun i _ => n - (intOf i).toNat)
  case atStart => exact I0.out
  case round =>
    clear I0
    obtain ⟨j, hj, rfl, I1, L1, X, Y, hq, hs, hz⟩ := hrel
    by_cases hjl : j < n
    · obtain ⟨b2, off2, kd, wh, Z, ea, hact, hkd, hwh, hZ⟩ := act10 HF.out hjl
      obtain ⟨x0, x1, x2⟩ := hact wr hq.os.below
      subst ea
      have t2 : decide ((j : Int) < (n : Int)) = true := decide_eq_true (by omega)
      have t2' : decide (j < n) = true := decide_eq_true hjl
      have q3 : (0 : Int) ≤ (j : Int) := by omega
      have q4 : (j : Int) < (n : Int) := by omega
      have ej : (((j + 1 : Nat)) : Int) = (j : Int) + 1 := by omega
      have bA := Blk.new wr 36 #[.int .i64 kd, .int .i64 wh, .int .u64 (Z : Int)]
      obtain ⟨W1, hW1⟩ : ∃ x, wr.alloc (.cells #[.int .i64 kd, .int .i64 wh, .int .u64 (Z : Int)] 36) = x := ⟨_, rfl⟩
      obtain ⟨bc, hbc⟩ : ∃ b, wr.heap.size = b := ⟨_, rfl⟩
      rw [hW1, hbc] at bA
      have m0 : W1.cell? ⟨bc, 0, none⟩ = some (.int .i64 kd) := bA.cell 0
      have m1 : W1.cell? ⟨bc, 1, none⟩ = some (.int .i64 wh) := bA.cell 1
      have m2 : W1.cell? ⟨bc, 2, none⟩ = some (.int .u64 (Z : Int)) := bA.cell 2
      have hgr : Below wr.heap.size wr W1 := by rw [← hW1]; exact (Below.refl _ wr).alloc (Nat.le_refl _) _
      have TA1 : Hid (TA w C sp p g I1 c L1 X q mk gm Y bc 36 #[.int .i64 kd, .int .i64 wh, .int .u64 (Z : Int)] W1) := Lib.hid ⟨hq.grew hgr, bA, fun x => by have := hq.os.sg.lt x; omega, fun x => by have := hq.rd.lt x; omega⟩
      have SD := Lib.hid hs; have ZX := Lib.hid hz
      have GX := Lib.hid hq.os.sg.good
      have PX : Hid (X.pl ≤ 3) := Lib.hid hq.os.sg.pl
      clear hact hq hs hz hgr bA
      go_upto_block 2 with fail
      clear hW1 hbc x0 x1 x2
      go_cut [] (fun wx => Al w C sp p g c q mk gm wx)
      case first =>
        have hkind : kd = 1 ∨ kd = 2 ∨ kd = 3 ∨ kd = 4 ∨ (kd < 1 ∨ 4 < kd) := by omega
        rcases hkind with hk | hk | hk | hk | hk
        · as_aux_lemma =>
          subst hk
          have LB := Lib.hid (ta_big TA1.out hwh)
          clear m2
          go_wp2_with fail
          refine LB.out.mono ?_; rintro e w6 ⟨a1, E, I2, X2, rfl, md, ht⟩
          have T2 := Lib.hid ht; have MD := Lib.hid md
          clear ht md m0 m1 LB TA1
          have m1 : w6.cell? ⟨bc, 1, none⟩ = some (.int .i64 wh) := T2.out.ba.cell 1
          go_wp2_with fail
          refine (ta_big_doc T2.out SD.out GX.out PX.out MD.out).mono ?_; rintro e w7 ⟨b1, Y2, rfl, ht, hs, hmap, hmem⟩
          have S3 := Lib.hid hs
          have TL := Lib.hid (ta_told ht MD.out.mem hmem hmap E)
          have Z3 := Lib.hid (MD.out.zero ZX.out)
          clear ht hs hmap hmem m1 T2 SD
          go_wp2_with fail
          refine TL.out.mono ?_; rintro e w8 ⟨rfl, hq⟩
          have Q : Hid (Al w C sp p g c q mk gm w8) := Lib.hid ⟨_, _, _, _, hq, S3.out, Z3.out⟩
          clear hq
          go_wp2_with fail
          go_meet
          exact Q.out
        · as_aux_lemma =>
          subst hk
          have hdr := SD.out.drop wh
          have hz1 := zero_drop ZX.out wh
          have gY := SD.out.good GX.out
          obtain ⟨X1, hX1⟩ : ∃ x, (dropE X wh).1 = x := ⟨_, rfl⟩
          obtain ⟨Y1, hY1⟩ : ∃ x, (dropE Y wh).1 = x := ⟨_, rfl⟩
          obtain ⟨E, hE⟩ : ∃ x, (dropE X wh).2 = x := ⟨_, rfl⟩
          have LD : Hid (∀ I' Y' w', TA w C sp p g I' c L1 X q mk gm Y' bc 36 #[.int .i64 2, .int .i64 wh, .int .u64 (Z : Int)] w' → Calls Tryd.prog 18 #[.pointer (some ⟨sp, 0, none⟩), .int .i64 wh] w' fun e w2 => e = .returned (.int .i64 E) ∧ ∃ I2, TA w C sp p g I2 c L1 X1 q mk gm Y' bc 36 #[.int .i64 2, .int .i64 wh, .int .u64 (Z : Int)] w2) :=
            Lib.hid fun I' Y' w' h => by rw [← hE, ← hX1]; exact (ta_drop h hwh).mono fun e w2 ⟨I2, k1, k2⟩ => ⟨k1, I2, k2⟩
          have DD : Hid (∀ I' X' w', TA w C sp p g I' c L1 X' q mk gm Y bc 36 #[.int .i64 2, .int .i64 wh, .int .u64 (Z : Int)] w' → Calls Tryd.prog 19 #[.pointer (some ⟨q, 0, none⟩), .int .i64 wh] w' fun e w2 => e = .returned (.int .i64 E) ∧ TA w C sp p g I' c L1 X' q mk gm Y1 bc 36 #[.int .i64 2, .int .i64 wh, .int .u64 (Z : Int)] w2) :=
            Lib.hid fun I' X' w' h => by rw [← hE, hdr.2, ← hY1]; exact ta_drop_doc h gY hwh
          rw [hX1, hY1] at hdr
          rw [hX1] at hz1
          have tE : ((E : Int) != (E : Int)) = false := by simp
          have S1 := Lib.hid hdr.1; have Z1 := Lib.hid hz1
          clear hdr hz1 gY hX1 hY1 hE m2
          go_wp2_with fail
          go_region_held3 (fun W => W.cell? ⟨bc, 1, none⟩ = some (.int .i64 wh)) (first | go_keep | exact m1)
            (first
              | (go_at_call 18; (first | (with_reducible refine (LD.out _ _ _ TA1.out.drew).mono ?_) | (with_reducible refine (LD.out _ _ _ TA1.out).mono ?_)); rintro e w6 ⟨rfl, I6, hh⟩; have TA1 := Lib.hid hh; have m1 : w6.cell? ⟨bc, 1, none⟩ = some (.int .i64 wh) := hh.ba.cell 1; clear hh)
              | (go_at_call 19; (first | (with_reducible refine (DD.out _ _ _ TA1.out.drew).mono ?_) | (with_reducible refine (DD.out _ _ _ TA1.out).mono ?_)); rintro e w6 ⟨rfl, hh⟩; have TA1 := Lib.hid hh; have m1 : w6.cell? ⟨bc, 1, none⟩ = some (.int .i64 wh) := hh.ba.cell 1; clear hh))
          have Q : Hid (Al w C sp p g c q mk gm _) := Lib.hid ⟨_, _, _, _, TA1.out.tq, S1.out, Z1.out⟩
          clear m1 m0 TA1
          go_wp2_with fail
          go_meet
          exact Q.out
        · as_aux_lemma =>
          subst hk
          have AT := Lib.hid (at_any TA1.out.tq SD.out hwh)
          clear m2
          go_wp2_with fail
          refine AT.out.mono ?_; rintro e w6 ⟨⟨v, rfl, aa, bb, rfl, hab⟩, hb⟩
          have T6 := Lib.hid (TA1.out.grew hb)
          clear hb m0 m1 AT TA1
          rcases hab with ⟨rfl, rfl⟩ | ⟨t, o, o', rfl, rfl, ho, ho', hsk⟩
          · have Q : Hid (Al w C sp p g c q mk gm w6) := Lib.hid ⟨_, _, _, _, T6.out.tq, SD.out, ZX.out⟩
            rw [show ptrO none = .pointer none from rfl]
            go_wp2_with fail
            go_meet
            exact Q.out
          · have hoX := List.mem_of_getElem? ho
            have hoY := List.mem_of_getElem? ho'
            obtain ⟨e1, e2, e3, e4⟩ := sk_parts hsk
            have pgo := T6.out.tq.os.sg.pg o hoX
            have zo := ZX.out o hoX
            have fit := fit_10 pgo.2.1 pgo.2.2.1 zo.1 zo.2
            have big := big_10 pgo.2.1
            rw [e4] at fit big
            have c0 := T6.out.tq.os.c0 hoX
            have LA := ta_alloc T6.out hoX
            have DA := fun L2 w' (h : TA w C sp p g I1 c L2 (X.put o.pp (allocP o.P).1) q mk gm Y bc 36 #[.int .i64 3, .int .i64 wh, .int .u64 (Z : Int)] w') => ta_alloc_doc h hoY fit big
            have hz1 := zero_put ZX.out hoX
            have hsd := SD.out.put T6.out.tq.os.sg.pps T6.out.tq.rd.pps ho ho' hsk (allocP o.P).1
            have hd0 := fun L2 w' (h : TA w C sp p g I1 c L2 (X.put o.pp (allocP o.P).1) q mk gm Y bc 36 #[.int .i64 3, .int .i64 wh, .int .u64 (Z : Int)] w') => h.tq.rd.o0 hoY
            rw [← e4] at DA
            rw [show ptrO (some o) = .pointer (some ⟨o.op, 0, none⟩) from rfl, show ptrO (some o') = .pointer (some ⟨o'.op, 0, none⟩) from rfl]
            obtain ⟨XA, hXA⟩ : ∃ x, (allocP o.P).2.1 = x := ⟨_, rfl⟩
            obtain ⟨EA, hEA⟩ : ∃ x, (allocP o.P).2.2 = x := ⟨_, rfl⟩
            obtain ⟨SA, hSA⟩ : ∃ x, (allocP o.P).1 = x := ⟨_, rfl⟩
            rw [hXA, hEA, hSA] at LA DA
            rw [hSA] at hz1 hsd hd0
            obtain ⟨oo, hoo⟩ : ∃ x, o.op = x := ⟨_, rfl⟩
            obtain ⟨opp, hopp⟩ : ∃ x, o.pp = x := ⟨_, rfl⟩
            obtain ⟨dq, hdo⟩ : ∃ x, o'.op = x := ⟨_, rfl⟩
            obtain ⟨dpp, hdpp⟩ : ∃ x, o'.pp = x := ⟨_, rfl⟩
            rw [hoo, hopp] at c0
            rw [hopp] at LA DA hz1 hsd hd0
            rw [hdpp] at DA hsd hd0
            rw [hdo] at hd0
            rw [hoo, hdo]
            have LA := Lib.hid LA; have DA := Lib.hid DA; have S1 := Lib.hid hsd; have Z1 := Lib.hid hz1; have D0 := Lib.hid hd0
            have tx : ((XA : Int) != (XA : Int)) = false := by simp
            have te : ((EA : Int) != (EA : Int)) = false := by simp
            clear hsd hz1 hd0 e1 e2 e3 e4 pgo zo fit big hXA hEA hSA hoo hopp hdo hdpp hoX hoY ho ho' hsk
            go_wp2_with fail
            refine LA.out.mono ?_; rintro e w7 ⟨rfl, L7, ht⟩
            have T7 := Lib.hid ht
            have d0 := D0.out _ _ ht
            clear ht c0
            go_wp2_with fail
            refine (DA.out _ _ T7.out).mono ?_; rintro e w8 ⟨rfl, ht⟩
            have Q : Hid (Al w C sp p g c q mk gm w8) := Lib.hid ⟨_, _, _, _, ht.tq, S1.out, Z1.out⟩
            clear ht d0
            go_wp2_with fail
            go_meet
            exact Q.out
        · as_aux_lemma =>
          subst hk
          have LF := Lib.hid (ta_find TA1.out hZ)
          clear m1
          go_wp2_with fail
          refine LF.out.mono ?_; rintro e w6 ⟨rfl, ht⟩
          have T2 := Lib.hid ht
          clear ht m0 m2 LF TA1
          have m2 : w6.cell? ⟨bc, 2, none⟩ = some (.int .u64 (Z : Int)) := T2.out.ba.cell 2
          go_wp2_with fail
          have hfe := (SD.out.find GX.out Z).2
          have DF := ta_find_doc T2.out SD.out hZ
          refine DF.mono ?_; rintro e w7 ⟨rfl, ht⟩
          have TL := Lib.hid (ta_told ht findO_mem findO_mem (SD.out.find GX.out Z).1 (findE X Z))
          clear ht m2 T2 hfe DF
          go_wp2_with fail
          refine TL.out.mono ?_; rintro e w8 ⟨rfl, hq⟩
          have Q : Hid (Al w C sp p g c q mk gm w8) := Lib.hid ⟨_, _, _, _, hq, SD.out, ZX.out⟩
          clear hq
          go_wp2_with fail
          go_meet
          exact Q.out
        · as_aux_lemma =>
          have k1 : (kd == (1 : Int)) = false := by rw [beq_eq_false_iff_ne]; omega
          have k2 : (kd == (2 : Int)) = false := by rw [beq_eq_false_iff_ne]; omega
          have k3 : (kd == (3 : Int)) = false := by rw [beq_eq_false_iff_ne]; omega
          have k4 : (kd == (4 : Int)) = false := by rw [beq_eq_false_iff_ne]; omega
          clear hk
          have LB := Lib.hid (ta_page TA1.out hwh)
          clear m2
          go_wp2_with fail
          refine LB.out.mono ?_; rintro e w6 ⟨a1, E, I2, X2, rfl, md, ht⟩
          have T2 := Lib.hid ht; have MD := Lib.hid md
          clear ht md m0 m1 LB TA1
          have m1 : w6.cell? ⟨bc, 1, none⟩ = some (.int .i64 wh) := T2.out.ba.cell 1
          go_wp2_with fail
          refine (ta_page_doc T2.out SD.out GX.out PX.out MD.out).mono ?_; rintro e w7 ⟨b1, Y2, rfl, ht, hs, hmap, hmem⟩
          have S3 := Lib.hid hs
          have TL := Lib.hid (ta_told ht MD.out.mem hmem hmap E)
          have Z3 := Lib.hid (MD.out.zero ZX.out)
          clear ht hs hmap hmem m1 T2 SD
          go_wp2_with fail
          refine TL.out.mono ?_; rintro e w8 ⟨rfl, hq⟩
          have Q : Hid (Al w C sp p g c q mk gm w8) := Lib.hid ⟨_, _, _, _, hq, S3.out, Z3.out⟩
          clear hq
          go_wp2_with fail
          go_meet
          exact Q.out
      case rest =>
        obtain ⟨I2, L2, X2, Y2, hq, hs, hz⟩ := hcut
        obtain ⟨ar, capD, c2, hrow, hlc, hcap⟩ := hq.rd.row
        obtain ⟨N, hN⟩ : ∃ n, Y2.L.length = n := ⟨_, rfl⟩
        have hNX : X2.L.length = N := hs.len.trans hN
        have hN15 : N ≤ 15 := by rw [← hNX]; exact hq.os.sg.good.count
        rw [hN] at c2 hlc
        have HN := Lib.hid hN; have HNX := Lib.hid hNX; have ROW := Lib.hid hrow
        have Q0 := Lib.hid hq; have S0 := Lib.hid hs; have Z0 := Lib.hid hz
        have B00 := Lib.hid (Below.refl wc.heap.size wc)
        have C2 := Lib.hid c2
        clear hq hs hz hrow hN hNX c2 m0 m1 m2 TA1 SD ZX GX PX
        go_wp2_with fail
        refine (os_pages Q0.out.os).mono ?_; rintro e w6 ⟨av, k, cv, rfl, hseq, q1, q2, _, _, hb6⟩
        have hk : k = N := by have := hseq.len; rw [List.length_map] at this; rw [this]; exact HNX.out
        subst hk
        have Q6 := Lib.hid (Q0.out.grew hb6)
        have C6 := Lib.hid (cell_then C2.out hb6)
        have R6 := Lib.hid (ROW.out _ hb6)
        obtain ⟨lf, hlf⟩ : ∃ l, MarkMath.left X2.K = l := ⟨_, rfl⟩
        have LL : Hid (∀ w', Below w6.heap.size w6 w' → Calls Tryd.prog 28 #[.pointer (some ⟨sp, 0, none⟩)] w' fun e w2 => e = .returned (.int .i64 (lf : Int)) ∧ Below w'.heap.size w' w2) :=
          Lib.hid fun w' b => (os_left (Q6.out.os.grew b)).mono fun e w2 k => ⟨by rw [k.1, hlf], k.2.2⟩
        have ML : Hid (∀ w', Below w6.heap.size w6 w' → Calls Tryd.prog 29 #[.pointer (some ⟨mk, 0, none⟩)] w' fun e w2 => e = .returned (.int .i64 (lf : Int)) ∧ w' = w2) :=
          Lib.hid fun w' b => (Mk.ref_left (Q6.out.rd.grew b).M).mono fun e w2 k => ⟨by rw [k.1, ← S0.out.K, hlf], k.2⟩
        have HC : Hid (∀ w', Below w6.heap.size w6 w' → w'.cell? ⟨q, 1, none⟩ = some (.pointer (some ⟨mk, 0, none⟩)) ∧ w'.cell? ⟨q, 2, none⟩ = some (.slice ar k capD)) := Lib.hid fun w' b => ⟨(Q6.out.rd.grew b).c1, cell_then C6.out b⟩
        have HS := Lib.hid hseq
        have B0 := Lib.hid (Below.refl w6.heap.size w6)
        obtain ⟨d1, d2⟩ := HC.out _ B0.out
        have tN : ((k : Int) != (k : Int)) = false := by simp
        have tL : ((lf : Int) != (lf : Int)) = false := by simp
        clear hseq hb6 hlf
        go_wp2_with fail
        go_region_held3 (fun W => W.cell? ⟨q, 1, none⟩ = some (.pointer (some ⟨mk, 0, none⟩)) ∧ W.cell? ⟨q, 2, none⟩ = some (.slice ar k capD)) (first | go_keep | exact ⟨d1, d2⟩)
          (first
            | (go_at_call 28; (first | (with_reducible refine (LL.out _ B0.out.drew).mono ?_) | (with_reducible refine (LL.out _ B0.out).mono ?_)); rintro e w7 ⟨rfl, hb⟩; have B0 := Lib.hid (by first | exact below_then B0.out.drew B0.out.size hb | exact below_then B0.out B0.out.size hb); obtain ⟨d1, d2⟩ := HC.out _ B0.out; clear hb)
            | (go_at_call 29; (first | (with_reducible refine (ML.out _ B0.out.drew).mono ?_) | (with_reducible refine (ML.out _ B0.out).mono ?_)); rintro e w7 ⟨rfl, rfl⟩))
        clear d1 d2 LL ML tN tL
        have I9 := Lib.hid (show LookR w6 k (.int .i64 0) _ from ⟨0, Nat.zero_le _, rfl, B0.out⟩)
        go_wp2
        go_loopw [215] (fun i wr => LookR w6 k i wr) (fun i _ => k - (intOf i).toNat)
        case atStart => exact I9.out
        case round =>
          clear I9 B0
          obtain ⟨t, ht, rfl, hb⟩ := hrel
          have B9 := Lib.hid hb
          by_cases htk : t < k
          · have htl : t < Y2.L.length := by rw [HN.out]; exact htk
            obtain ⟨o', hoe'⟩ : ∃ o, Y2.L[t]? = some o := ⟨Y2.L[t]'htl, List.getElem?_eq_getElem _⟩
            obtain ⟨o, hoe, hsk⟩ := S0.out.symm.at hoe'
            have hgw := Q6.out.grew hb
            have TL := Lib.hid (told_some hgw (List.mem_of_getElem? hoe) (List.mem_of_getElem? hoe') hsk.symm 0)
            obtain ⟨b6, off6, ea, d0⟩ := ptr_at (R6.out.upd (updFalse_of hb) fun _ _ => id) hoe'
            subst ea
            obtain ⟨b5, off5, ea, e0⟩ : ∃ b off, av = some ⟨b, off, none⟩ ∧ wr.cell? ⟨b, off + t, none⟩ = some (.pointer (some ⟨o.op, 0, none⟩)) := by
              obtain ⟨b, off, ea, hcell⟩ := (HS.out.upd (updFalse_of hb) fun _ _ => id).elem (show (X2.L.map fun o => some (⟨o.op, 0, none⟩ : Addr))[t]? = some (some ⟨o.op, 0, none⟩) by rw [List.getElem?_map, hoe]; rfl)
              refine ⟨b, off, ea, ?_⟩
              have h0 := hcell 0 (.pointer (some ⟨o.op, 0, none⟩)) rfl
              simpa [Elem.ptrs] using h0
            subst ea
            obtain ⟨d1, d2⟩ := HC.out _ hb
            obtain ⟨oo, hoo⟩ : ∃ x, o.op = x := ⟨_, rfl⟩
            obtain ⟨dq, hdo⟩ : ∃ x, o'.op = x := ⟨_, rfl⟩
            rw [hoo] at e0 TL
            rw [hdo] at d0 TL
            have t3 : decide ((t : Int) < (k : Int)) = true := decide_eq_true (by omega)
            have t3' : decide (t < k) = true := decide_eq_true htk
            have p0 : (0 : Int) ≤ (t : Int) := by omega
            have p1 : (t : Int) < (k : Int) := by omega
            clear hgw hoe hoe' hsk hoo hdo hb d1
            go_wp2_with fail
            refine TL.out.mono ?_; rintro e w8 ⟨rfl, hb8⟩
            have B8 := Lib.hid (below_then B9.out B9.out.size hb8)
            clear hb8 d0 d2 e0
            go_wp2
            go_roundw
            case rel => exact ⟨t + 1, by omega, by rw [show ((t + 1 : Nat) : Int) = (t : Int) + 1 by omega], B8.out⟩
            case measure => simp [intOf]; omega
          · obtain rfl : t = k := by omega
            have t3 : decide ((t : Int) < (t : Int)) = false := decide_eq_false (by omega)
            have QE : Hid (TQ w C sp p g I2 c L2 X2 q mk gm Y2 wr) := Lib.hid (Q6.out.grew hb)
            clear hb
            go_wp2
            go_roundw
            case rel => exact ⟨j + 1, by omega, by rw [ej], I2, L2, X2, Y2, QE.out, S0.out, Z0.out⟩
            case measure => simp [intOf]; omega
    · obtain rfl : j = n := by omega
      have t2 : decide ((j : Int) < (j : Int)) = false := decide_eq_false (by omega)
      have hbl := hq.os.below
      clear hq hs hz
      go_wp2
      go_ret
      exact ⟨rfl, hbl⟩
end Go.Proofs.YtomepdgddpajoaaDoor.segActs
