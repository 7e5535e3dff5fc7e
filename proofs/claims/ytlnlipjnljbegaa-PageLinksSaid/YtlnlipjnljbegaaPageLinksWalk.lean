/- The law PageLinks, walked. -/
import Derived.Test.YtlnlipjnljbegaaFillUp9
import Derived.Test.YtlnlipjnljbegaaMemW
import Derived.Test.YtlnlipjnljbegaaGeoC
namespace Go.Proofs.Ytlnlipjnljbegaa.pageLinks
open Go.RowKit ListMath PageMath GeoMath
set_option linter.unusedVariables false

/-- What hangs on a, whose link is x. -/
theorem two_chain {L : List Nat} {a x n : Nat} {P : List Nat} (h : chainN L a (n : Int) = some P) (hx : linkAt L a = x) (ha : a ≠ 0) (hx0 : x ≠ 0) : 2 ≤ P.length := by
  unfold chainN at h
  obtain ⟨hc, _⟩ := chain_rowF h
  cases P with
  | nil => exact absurd hc ha
  | cons b t =>
    obtain ⟨rfl, _, _, hc⟩ := hc
    cases t with
    | nil => rw [hx] at hc; exact absurd hc hx0
    | cons d t => simp
theorem one_chain {L : List Nat} {a n : Nat} (hx : linkAt L a = 0) (ha : a ≠ 0) (h8 : a + 8 ≤ L.length) (hn : 1 ≤ n) : chainN L a (n : Int) = some [a] := by
  unfold chainN
  rw [Int.toNat_natCast]
  exact rowF_chain ⟨rfl, ha, h8, hx⟩ (by simp; omega)
theorem in_two {s n : Nat} (h : mayN 1024 s (n : Int) = true) (hs : 1 ≤ s) (hn : 2 ≤ n) : inN 1024 s (n : Int) [1024, 1024 + s] = true := by
  have h0 : hits 1024 s (n : Int) 1024 = true := hits_block (i := 0) (by omega) (by omega) (by omega)
  have h1 : hits 1024 s (n : Int) (1024 + s) = true := hits_block (i := 1) (by omega) (by omega) (by omega)
  unfold inN
  simp [h, h0, h1]
set_option maxRecDepth 100000 in
set_option maxHeartbeats 4000000 in
theorem walk_of (w : World) (C : PgC w) (sz : Int) (hsw : (Lit.int .u8 sz).wf = true) (xx : Int) (hxw : (Lit.int .u64 xx).wf = true) :
    Calls Try.prog 8 #[.int .u8 sz, .int .u64 xx] w fun e w' => e = .returned (.bool true) ∧ Below w.heap.size w w' := by
  obtain ⟨e1, hs1⟩ := u8_of hsw
  have hx64 : 0 ≤ xx ∧ xx ≤ 18446744073709551615 := by simp [Lit.wf, IntKind.min, IntKind.max, IntKind.signed, IntKind.bits] at hxw; omega
  obtain ⟨A, hA⟩ : ∃ A, sz.toNat = A := ⟨_, rfl⟩
  rw [hA] at e1 hs1
  obtain ⟨x, rfl⟩ := Int.eq_ofNat_of_zero_le hx64.1
  have hxb : x ≤ 18446744073709551615 := by omega
  subst e1
  clear hsw hxw hA hx64
  go_enter Try.func8, Try.ntmps8
  go_wp2_with fail
  refine (alive_any _ C).mono ?_; rintro e w1 ⟨rfl, hb⟩
  have B1 := Lib.hid hb
  clear hb
  go_wp2_with fail
  refine (made_any w C A 8 hs1 (by decide) _ B1.out).mono ?_; rintro e w2 ⟨pp, p, g, O, nb, c, L0, rfl, hh, hl0, hnb⟩
  have hsb := size_bd A
  obtain ⟨s, hs⟩ : ∃ s, sizeN A = s := ⟨_, rfl⟩
  rw [hs] at hh hsb
  rw [hs]
  rw [show countN 8 = 9 by decide] at hh ⊢
  obtain ⟨s16, s256⟩ := hsb
  rw [← fresh_zero] at hh
  have H2 := Lib.hid hh; have LN := Lib.hid hl0; have HNB := Lib.hid hnb
  have h3 := hh.alloc (.cells #[.int .u64 1024, .int .u64 (s : Int), .int .i64 9] 34)
  clear hh hl0 hnb hs
  unfold runV
  have b9 := Blk.new w2 34 #[.int .u64 1024, .int .u64 (s : Int), .int .i64 9]
  obtain ⟨w3, hw3⟩ : ∃ x, w2.alloc (.cells #[.int .u64 1024, .int .u64 (s : Int), .int .i64 9] 34) = x := ⟨_, rfl⟩
  rw [hw3] at b9 h3
  obtain ⟨k9, hk9⟩ : ∃ k, w2.heap.size = k := ⟨_, rfl⟩
  rw [hk9] at b9
  have H3 := Lib.hid h3; have B9 := Lib.hid b9
  have NB9 : Hid (nb = k9) := Lib.hid (by rw [HNB.out, hk9])
  have hal := has_alloc H3.out
  rw [fresh_alloc (by decide)] at hal
  rw [show 1024 + 0 * s = 1024 by omega] at hal
  have AL := Lib.hid hal
  clear h3 b9 hal
  go_wp2_with fail
  clear hw3 hk9
  refine AL.out.mono ?_; rintro e w4 ⟨L1, rfl, hh, _, hu⟩
  have B4 := Lib.hid (H3.out.blk hu B9.out (by rw [NB9.out]; exact Nat.le_refl _))
  have hal := has_alloc hh
  rw [fresh_alloc (by decide)] at hal
  rw [show 1024 + 1 * s = 1024 + s by omega] at hal
  obtain ⟨b, hb⟩ : ∃ b, 1024 + s = b := ⟨_, rfl⟩
  simp only [] at hal
  rw [hb] at hal
  have AL := Lib.hid hal; have H4 := Lib.hid hh
  clear hal hh hu
  go_wp2_with fail
  refine AL.out.mono ?_; rintro e w5 ⟨L2, rfl, hh, _, hu⟩
  have B5 := Lib.hid (H4.out.blk hu B4.out (by rw [NB9.out]; exact Nat.le_refl _))
  have H5 := Lib.hid hh
  clear hh hu
  go_wp2_with fail
  obtain ⟨S, hS⟩ : ∃ S, fresh 1024 s 9 2 = S := ⟨_, rfl⟩
  have hSF : S.F = news 1024 s 2 2 := by rw [← hS]; rfl
  have hSG : S.G = [] := by rw [← hS]; rfl
  have hSn : S.f = 1024 ∧ S.s = s ∧ S.n = 9 ∧ S.made = 4 ∧ S.used = 2 ∧ S.cw = 0 ∧ S.ct = 0 := by rw [← hS]; exact ⟨rfl, rfl, rfl, rfl, rfl, rfl, rfl⟩
  have hh : Has C pp p g O nb c L2 (fresh 1024 s 9 2) w5 := H5.out
  rw [hS] at hh
  obtain ⟨n1, n2, n3, n4, n5, n6, n7⟩ := hSn
  have hba : IsBlk S.f S.s S.made 1024 := ⟨0, by omega, by rw [n1]; omega⟩
  have hbb : IsBlk S.f S.s S.made b := ⟨1, by omega, by rw [n1, n2]; omega⟩
  have hnF : ∀ y, y ≤ b → y ∉ S.F := fun y hy hm => by
    rw [hSF] at hm
    obtain ⟨j, _, e⟩ := news_mem hm
    have := Nat.mul_le_mul_right s (show 2 ≤ 2 + j by omega)
    omega
  have hbs : b ≤ 1280 := by omega
  have h1024 : 1024 ≤ b := by omega
  have HH := Lib.hid hh; have NN := Lib.hid (And.intro n1 (And.intro n2 (And.intro n3 (And.intro n4 (And.intro n5 (And.intro n6 n7)))))); have BA := Lib.hid hba; have BB := Lib.hid hbb; have NF := Lib.hid hnF; have NG := Lib.hid hSG
  have HBS := Lib.hid hb
  clear hh H5 hS hSF hSG n1 n2 n3 n4 n5 n6 n7 hba hbb hnF hb AL
  refine (has_cell HH.out).mono ?_; rintro e w6 ⟨rfl, hh, hb⟩
  have H6 := Lib.hid hh
  have B6 := Lib.hid (B5.out.grew hb)
  clear hh hb
  go_wp2_with fail
  refine (has_load H6.out (by rw [NN.out.2.2.2.2.2.2]; decide)).mono ?_; rintro e w7 ⟨rfl, hh, hu⟩
  rw [NN.out.2.2.2.2.2.1, NN.out.2.2.2.2.2.2]
  have B7 := Lib.hid (H6.out.blk hu B6.out (by rw [NB9.out]; exact Nat.le_refl _))
  have H7 := Lib.hid hh
  have hpo := has_post (a := 1024) (hd := 0) (t := 0) hh (show (1024 : Nat) ≤ _ by decide) (show (0 : Nat) ≤ _ by decide) (show (0 : Nat) ≤ _ by decide) (NF.out 1024 h1024) (by show 1024 ∉ S.G; rw [NG.out]; exact fun h => by cases h) (given_blk (C.good hh.pg) BA.out) (show S.ct ≤ _ by rw [NN.out.2.2.2.2.2.2]; decide)
  rw [show postP S.asked 1024 0 = (S.asked.wrote 1024, true) from if_pos (show 0 = S.ct from NN.out.2.2.2.2.2.2.symm)] at hpo
  have PO := Lib.hid hpo
  clear hh hu hpo
  go_wp2_with fail
  refine PO.out.mono ?_; rintro e w8 ⟨rfl, hh, hu⟩
  have B8 := Lib.hid (H7.out.blk hu B7.out (by rw [NB9.out]; exact Nat.le_refl _))
  have H8 := Lib.hid hh
  have hg8 := C.good hh.pg
  have hfit : 1024 + 8 ≤ (MemMath.put8 L2 1024 0).length := by
    have h1 := BA.out.fits hg8.made hg8.fit
    have h2 := hg8.s16
    have h3 : (S.asked.wrote 1024).s = S.s := rfl
    omega
  have hst := store8 w8 (C.mem hh.pg) 1024 x (by decide) hxb
  rw [if_pos hfit, if_pos hfit] at hst
  have ST := Lib.hid hst; have FT := Lib.hid hfit; have G8 := Lib.hid hg8
  clear hh hu hfit hst hg8
  go_wp2_with fail
  refine ST.out.mono ?_; rintro e w9 ⟨rfl, hm, hu⟩
  have hg9 : GoodP (MemMath.put8 (MemMath.put8 L2 1024 0) 1024 x) (S.asked.wrote 1024) := G8.out.agree (Agree.put FT.out) (fun y hy => by
    rw [List.mem_singleton.1 hy]
    exact ⟨BA.out, NF.out 1024 h1024, by show 1024 ∉ S.G; rw [NG.out]; exact fun h => by cases h⟩)
  have B9' := Lib.hid (B8.out.upd hu (fun e => by have := (H8.out.lo _ (C.num H8.out.pg).2.2.1).2; rw [NB9.out] at this; omega))
  have hh := has_lay H8.out hm hu hg9
  have hlk : linkAt (MemMath.put8 (MemMath.put8 L2 1024 0) 1024 x) 1024 = x := link_same FT.out hxb
  have hl9 : 1024 + 8 ≤ (MemMath.put8 (MemMath.put8 L2 1024 0) 1024 x).length := by rw [MemMath.length_put8 FT.out]; exact FT.out
  obtain ⟨L4, hL4⟩ : ∃ L, MemMath.put8 (MemMath.put8 L2 1024 0) 1024 x = L := ⟨_, rfl⟩
  rw [hL4] at hh hlk hl9
  have hcw : (S.asked.wrote 1024).cw = 1024 := rfl
  have hcn : (S.asked.wrote 1024).n = 9 := NN.out.2.2.1
  have hcu : (S.asked.wrote 1024).used = 2 := NN.out.2.2.2.2.1
  have H9 := Lib.hid hh; have LK := Lib.hid hlk; have L9 := Lib.hid hl9; have CW := Lib.hid hcw; have CN := Lib.hid hcn; have CU := Lib.hid hcu
  clear hm hu hg9 hh hlk hl9 hL4 hcw hcn hcu
  go_wp2_with fail
  by_cases hx0 : x = 0
  · subst hx0
    have hga := has_gather H9.out (P := [1024]) (by rw [CW.out, CN.out]; exact one_chain LK.out (by decide) L9.out (by decide)) (by rw [CU.out]; decide) (fun y hy => by
      rw [List.mem_singleton.1 hy]
      exact ⟨BA.out, NF.out 1024 h1024, by show 1024 ∉ S.G; rw [NG.out]; exact fun h => by cases h⟩) (by simp)
    have hu1 : (gathP (S.asked.wrote 1024) [1024]).used = 1 := by show (S.asked.wrote 1024).used - 1 = 1; rw [CU.out]
    have GA := Lib.hid hga; have GU := Lib.hid hu1
    clear hga hu1
    refine GA.out.mono ?_; rintro e w10 ⟨L5, rfl, hh, _, _⟩
    have H10 := Lib.hid hh
    clear hh
    go_wp2_with fail
    refine (has_used H10.out).mono ?_; rintro e w11 ⟨rfl, hh, _⟩
    rw [GU.out]
    have H11 := Lib.hid hh
    clear hh
    go_wp2
    go_ret
    exact ⟨rfl, H11.out.below⟩
  · have t1 : ((x : Int) == 0) = false := by rw [beq_eq_false_iff_ne]; omega
    by_cases hP : ∃ P, chainN L4 1024 (9 : Nat) = some P ∧ P.length ≤ 2
    · obtain ⟨P, hP1, hP2⟩ := hP
      have hl2 : P.length = 2 := by have := two_chain hP1 LK.out (by decide) hx0; omega
      have hga := C.gather_any w9 H9.out.below H9.out.pg (P := P) (by rw [CW.out, CN.out]; exact hP1) (by rw [CU.out]; omega)
      rw [hl2, CU.out] at hga
      have GA := Lib.hid hga; have NX := Lib.hid hx0
      clear hga hP1 hP2 hl2 hx0
      refine GA.out.mono ?_; rintro e w10 ⟨rfl, hk, hu⟩
      have hb10 : Below w.heap.size w w10 := H9.out.below.trans (hu.below (fun b hb => (H9.out.lo b hb).1) H9.out.below.size)
      have K := Lib.hid hk; have B10 := Lib.hid hb10
      clear hk hu hb10
      go_wp2_with fail
      refine (C.wk_used w10 B10.out K.out).mono ?_; rintro e w11 ⟨rfl, hb⟩
      have B11 := Lib.hid (below_then B10.out B10.out.size hb)
      clear hb
      go_wp2
      go_ret
      exact ⟨rfl, B11.out⟩
    · have hga := has_gather_bad H9.out (fun P h => by
        rw [CW.out, CN.out] at h
        rw [CU.out]
        exact Nat.lt_of_not_le fun h2 => hP ⟨P, h, h2⟩)
      have GA := Lib.hid hga; have NX := Lib.hid hx0
      clear hga hP hx0
      refine GA.out.mono ?_; rintro e w10 ⟨rfl, hh, hu⟩
      have B10 := Lib.hid (H9.out.blk hu B9'.out (by rw [NB9.out]; exact Nat.le_refl _))
      have H10 := Lib.hid hh
      clear hh hu
      go_wp2_with fail
      refine (has_cell H10.out).mono ?_; rintro e w11 ⟨rfl, hh, hb⟩
      have H11 := Lib.hid hh
      have B11 := Lib.hid (B10.out.grew hb)
      clear hh hb
      go_wp2_with fail
      refine (has_load H11.out (by show S.ct + 1 + 1 ≤ _; rw [NN.out.2.2.2.2.2.2]; decide)).mono ?_; rintro e w12 ⟨rfl, hh, hu⟩
      rw [show ((S.asked.wrote 1024).wrote 0).cw = 0 from rfl]
      have B12 := Lib.hid (H11.out.blk hu B11.out (by rw [NB9.out]; exact Nat.le_refl _))
      have H12 := Lib.hid hh
      clear hh hu
      go_wp2_with fail
      refine (has_used H12.out).mono ?_; rintro e w13 ⟨rfl, hh, hb⟩
      have hu2 : ((S.asked.wrote 1024).wrote 0).asked.used = 2 := CU.out
      rw [hu2]
      have B13 := Lib.hid (B12.out.grew hb)
      have hgood := C.good hh.pg
      have hfr := has_free (hh.alloc (.cells #[.int .u64 (b : Int)] 22)) (u64_oneAt w13 22 b _ rfl) (fun y hy => hh.out (by have h1 := in_blk hy; have h2 := hh.size; omega)) (by decide) (by decide) (by decide) (by intro a ha; rw [List.mem_singleton.1 ha]; show b ≤ _; omega) (by simp) (by
        intro a ha
        rw [List.mem_singleton.1 ha]
        exact ⟨NF.out b (Nat.le_refl _), by show b ∉ S.G; rw [NG.out]; exact fun h => by cases h⟩)
      rw [free_all (L := L4) [b] _ hgood.may hgood.made (fun a ha => by rw [List.mem_singleton.1 ha]; exact BB.out) (by rw [hu2]; show 1 ≤ 2; decide)] at hfr
      have FR := Lib.hid hfr; have H13 := Lib.hid hh
      clear hh hb hu2 hfr hgood
      go_wp2_with fail
      refine FR.out.mono ?_; rintro e w14 ⟨L6, rfl, hh, _, hu⟩
      have hb14 := (H13.out.alloc (.cells #[.int .u64 (b : Int)] 22)).blk hu (B13.out.alloc (.cells #[.int .u64 (b : Int)] 22)) (by rw [NB9.out]; exact Nat.le_refl _)
      have f0 : w14.cell? ⟨k9, 0, none⟩ = some (.int .u64 1024) := hb14.cell 0
      have f1 : w14.cell? ⟨k9, 1, none⟩ = some (.int .u64 (s : Int)) := hb14.cell 1
      have f2 : w14.cell? ⟨k9, 2, none⟩ = some (.int .i64 9) := hb14.cell 2
      have hin : inN 1024 s (9 : Nat) [1024, b] = true := by
        rw [← HBS.out]
        have hm := (C.good H13.out.pg).may
        have e : mayN 1024 s ((9 : Nat) : Int) = true := by
          have n := NN.out
          rw [show ((S.asked.wrote 1024).wrote 0).asked.f = 1024 from n.1, show ((S.asked.wrote 1024).wrote 0).asked.s = s from n.2.1, show ((S.asked.wrote 1024).wrote 0).asked.n = 9 from n.2.2.1] at hm
          exact hm
        exact in_two e (by omega) (by decide)
      have H14 := Lib.hid hh
      have hci := code_in (w14.alloc (.cells #[.int .u64 1024, .int .u64 (b : Int)] 22)) 1024 s (9 : Nat) (by decide) (show s ≤ 18446744073709551615 by omega) ⟨by decide, by decide⟩ _ 2 2 [1024, b] (u64_twoAt w14 22 1024 b _ rfl) (by decide) (by
        intro a ha
        show a ≤ 18446744073709551615
        rcases List.mem_cons.1 ha with rfl | ha
        · decide
        · rw [List.mem_singleton.1 ha]; omega)
      rw [hin] at hci
      have CI := Lib.hid hci
      clear hh hu hb14 hin hci
      go_wp2_with fail
      refine CI.out.mono ?_; rintro e w15 ⟨rfl, hb⟩
      have H15 := Lib.hid ((H14.out.alloc (.cells #[.int .u64 1024, .int .u64 (b : Int)] 22)).grew hb)
      clear hb f0 f1 f2
      go_wp2
      go_ret
      exact ⟨rfl, H15.out.below⟩
end Go.Proofs.Ytlnlipjnljbegaa.pageLinks
