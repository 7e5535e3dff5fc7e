/- The laws' 'rows' and 'given' of layer 9. -/
import Derived.Test.YtlnlipjnljbegaaPair9
import Derived.Deep.DeepCutAuto
import Derived.Deep.CutBlock
namespace Go.Proofs.Ytlnlipjnljbegaa
open Go.RowKit Go.Maps ListMath PageMath GeoMath
set_option linter.unusedVariables false

set_option maxRecDepth 100000 in
set_option maxHeartbeats 4000000 in
theorem rows_any {w : World} {C : PgC w} {pp p g nb q : Nat} {O A : Nat → Prop} {c : Addr} {U P L : List Nat} {S : PG} {w' : World} (h : PB w C pp p g O nb c q A U P L S S P w') (hca9 : S.ca ≤ 1000000000) :
    Calls Try.prog 24 #[.pointer (some ⟨pp, 0, none⟩), .pointer (some ⟨q, 0, none⟩)] w' fun e w2 => e = .returned (.bool true) ∧ Below w'.heap.size w' w2 := by
  have LL := Lib.hid (C.lists w' h.has.below h.has.pg (h.wh.chain h.good).1)
  have hadd := h.wh.add; have huse := h.wh.use; have hmd := h.good.made; have hn2 := h.good.n2
  have PBH := Lib.hid h
  obtain ⟨aF, cF, aG, cG, aP, cP, k, rF, rG, rP⟩ := h.rp.out
  obtain ⟨nF, hnF⟩ : ∃ n, S.F.length = n := ⟨_, rfl⟩
  obtain ⟨nG, hnG⟩ : ∃ n, S.G.length = n := ⟨_, rfl⟩
  obtain ⟨nP, hnP⟩ : ∃ n, P.length = n := ⟨_, rfl⟩
  obtain ⟨us, hus⟩ : ∃ n, S.used = n := ⟨_, rfl⟩
  obtain ⟨md, hmd2⟩ : ∃ n, S.made = n := ⟨_, rfl⟩
  obtain ⟨ca, hca⟩ : ∃ n, S.ca = n := ⟨_, rfl⟩
  have KK := Lib.hid k; have RF := Lib.hid rF; have RG := Lib.hid rG; have RPP := Lib.hid rP
  have NF := Lib.hid hnF; have NG := Lib.hid hnG; have NP := Lib.hid hnP; have US := Lib.hid hus; have MD := Lib.hid hmd2; have CA := Lib.hid hca
  have hl1 : nF ≤ 1024 := by omega
  rw [hca] at hca9
  have HCA9 := Lib.hid hca9
  clear hca9
  have hl2 : nG ≤ 1024 := by omega
  have hl3 : nP ≤ 1024 := by omega
  clear h k rF rG rP hnF hnG hnP hus hmd2 hca hadd huse hmd hn2
  go_enter Try.func24, Try.ntmps24
  go_wp2_with fail
  refine LL.out.mono ?_; rintro e w6 ⟨hb, a1, k1, c1, a2, k2, c2, a3, k3, c3, rfl, ⟨s1, l1, m1, -⟩, ⟨s2, l2, m2, -⟩, ⟨s3, l3, m3, -⟩⟩
  have k6 := KK.out.grew hb
  have d5 : w6.cell? ⟨q, 5, none⟩ = some (.slice aF nF cF) := by rw [← NF.out]; exact k6.cell 5
  have d6 : w6.cell? ⟨q, 6, none⟩ = some (.slice aG nG cG) := by rw [← NG.out]; exact k6.cell 6
  have d7 : w6.cell? ⟨q, 7, none⟩ = some (.slice aP nP cP) := by rw [← NP.out]; exact k6.cell 7
  have d4 : w6.cell? ⟨q, 4, none⟩ = some (.int .i64 (us : Int)) := by rw [← US.out]; exact k6.cell 4
  have d3 : w6.cell? ⟨q, 3, none⟩ = some (.int .i64 (md : Int)) := by rw [← MD.out]; exact k6.cell 3
  have d9 : w6.cell? ⟨q, 9, none⟩ = some (.int .i64 (ca : Int)) := by rw [← CA.out]; exact k6.cell 9
  have K6 := Lib.hid k6
  have B6 := Lib.hid hb
  have PB6 := Lib.hid (PBH.out.grew hb)
  have S1 : Hid (∀ x, Below w6.heap.size w6 x → Seq Elem.u64s x (.slice a1 k1 c1) S.F ∧ Seq Elem.u64s x (.slice aF nF cF) S.F) := Lib.hid fun x hx => ⟨s1.below (Nat.le_refl _) hx, by rw [← NF.out]; exact (RF.out.1.below (Nat.le_refl _) hb).below (Nat.le_refl _) hx⟩
  have S2 : Hid (∀ x, Below w6.heap.size w6 x → Seq Elem.u64s x (.slice a2 k2 c2) S.G ∧ Seq Elem.u64s x (.slice aG nG cG) S.G) := Lib.hid fun x hx => ⟨s2.below (Nat.le_refl _) hx, by rw [← NG.out]; exact (RG.out.1.below (Nat.le_refl _) hb).below (Nat.le_refl _) hx⟩
  have S3 : Hid (∀ x, Below w6.heap.size w6 x → Seq Elem.u64s x (.slice a3 k3 c3) P ∧ Seq Elem.u64s x (.slice aP nP cP) P) := Lib.hid fun x hx => ⟨s3.below (Nat.le_refl _) hx, by rw [← NP.out]; exact (RPP.out.1.below (Nat.le_refl _) hb).below (Nat.le_refl _) hx⟩
  have hk1 : k1 ≤ 9223372036854775807 := Nat.le_trans l1 m1
  have hk2 : k2 ≤ 9223372036854775807 := Nat.le_trans l2 m2
  have hk3 : k3 ≤ 9223372036854775807 := Nat.le_trans l3 m3
  have SM1 : Hid (∀ x, Below w6.heap.size w6 x → Calls Try.prog 54 #[.slice a1 k1 c1, .slice aF nF cF] x fun e x2 => e = .returned (.bool true) ∧ Below w6.heap.size w6 x2) := Lib.hid fun x hx => (same7_any x (S1.out x hx).1 (S1.out x hx).2 hk1 (by omega)).mono fun e x2 ⟨h1, h2⟩ => ⟨by rw [h1, decide_eq_true rfl], hx.trans (h2.mono hx.size)⟩
  have SM2 : Hid (∀ x, Below w6.heap.size w6 x → Calls Try.prog 54 #[.slice a2 k2 c2, .slice aG nG cG] x fun e x2 => e = .returned (.bool true) ∧ Below w6.heap.size w6 x2) := Lib.hid fun x hx => (same7_any x (S2.out x hx).1 (S2.out x hx).2 hk2 (by omega)).mono fun e x2 ⟨h1, h2⟩ => ⟨by rw [h1, decide_eq_true rfl], hx.trans (h2.mono hx.size)⟩
  have SM3 : Hid (∀ x, Below w6.heap.size w6 x → Calls Try.prog 54 #[.slice a3 k3 c3, .slice aP nP cP] x fun e x2 => e = .returned (.bool true) ∧ Below w6.heap.size w6 x2) := Lib.hid fun x hx => (same7_any x (S3.out x hx).1 (S3.out x hx).2 hk3 (by omega)).mono fun e x2 ⟨h1, h2⟩ => ⟨by rw [h1, decide_eq_true rfl], hx.trans (h2.mono hx.size)⟩
  have USED : Hid (∀ x, Below w6.heap.size w6 x → Calls Try.prog 27 #[.pointer (some ⟨pp, 0, none⟩)] x fun e x2 => e = .returned (.int .i64 (us : Int)) ∧ Below w6.heap.size w6 x2) := Lib.hid fun x hx => by
    rw [← US.out]
    exact (has_used (PB6.out.has.grew hx)).mono fun e x2 ⟨h1, _, h3⟩ => ⟨h1, hx.trans (h3.mono hx.size)⟩
  have MADE : Hid (∀ x, Below w6.heap.size w6 x → Calls Try.prog 28 #[.pointer (some ⟨pp, 0, none⟩)] x fun e x2 => e = .returned (.int .i64 (md : Int)) ∧ Below w6.heap.size w6 x2) := Lib.hid fun x hx => by
    rw [← MD.out]
    exact (has_made (PB6.out.has.grew hx)).mono fun e x2 ⟨h1, _, h3⟩ => ⟨h1, hx.trans (h3.mono hx.size)⟩
  have CELL : Hid (∀ x, Below w6.heap.size w6 x → Calls Try.prog 29 #[.pointer (some ⟨pp, 0, none⟩)] x fun e x2 => e = .returned (.pointer (some c)) ∧ Below w6.heap.size w6 x2) := Lib.hid fun x hx =>
    (has_cell (PB6.out.has.grew hx)).mono fun e x2 ⟨h1, _, h3⟩ => ⟨h1, hx.trans (h3.mono hx.size)⟩
  have ASKED : Hid (∀ x b, Below w6.heap.size w6 x → x.cell? ⟨b, 0, none⟩ = some (.pointer (some c)) → Calls Try.prog 55 #[.slice (some ⟨b, 0, none⟩) 1 1] x fun e x2 => e = .returned (.int .i64 (ca : Int)) ∧ Below w6.heap.size w6 x2) := Lib.hid fun x b hx hcl => by
    rw [← CA.out]
    have hh := PB6.out.has.grew hx
    exact (C.asked x hh.below hh.pg (by rw [CA.out]; exact HCA9.out) hcl).mono fun e x2 ⟨h1, h3⟩ => ⟨h1, hx.trans (h3.mono hx.size)⟩
  have SC : Hid (∀ x, Below w6.heap.size w6 x → x.cell? ⟨q, 5, none⟩ = some (.slice aF nF cF) ∧ x.cell? ⟨q, 6, none⟩ = some (.slice aG nG cG) ∧ x.cell? ⟨q, 7, none⟩ = some (.slice aP nP cP) ∧ x.cell? ⟨q, 4, none⟩ = some (.int .i64 (us : Int)) ∧ x.cell? ⟨q, 3, none⟩ = some (.int .i64 (md : Int)) ∧ x.cell? ⟨q, 9, none⟩ = some (.int .i64 (ca : Int))) := Lib.hid fun x hx => by
    have k := K6.out.grew hx
    refine ⟨?_, ?_, ?_, ?_, ?_, ?_⟩
    · rw [← NF.out]; exact k.cell 5
    · rw [← NG.out]; exact k.cell 6
    · rw [← NP.out]; exact k.cell 7
    · rw [← US.out]; exact k.cell 4
    · rw [← MD.out]; exact k.cell 3
    · rw [← CA.out]; exact k.cell 9
  have BB := Lib.hid (Below.refl w6.heap.size w6)
  have HS := SC.out w6 BB.out
  have t1 : ((us : Int) == (us : Int)) = true := by simp
  have t2 : ((md : Int) == (md : Int)) = true := by simp
  have t3 : ((ca : Int) == (ca : Int)) = true := by simp
  clear hb s1 l1 m1 s2 l2 m2 s3 l3 m3 k6 d5 d6 d7 d4 d3 d9 hk1 hk2 hk3 hl1 hl2 hl3
  go_wp2_with fail
  go_region_held3 (fun x => x.cell? ⟨q, 5, none⟩ = some (.slice aF nF cF) ∧ x.cell? ⟨q, 6, none⟩ = some (.slice aG nG cG) ∧ x.cell? ⟨q, 7, none⟩ = some (.slice aP nP cP) ∧ x.cell? ⟨q, 4, none⟩ = some (.int .i64 (us : Int)) ∧ x.cell? ⟨q, 3, none⟩ = some (.int .i64 (md : Int)) ∧ x.cell? ⟨q, 9, none⟩ = some (.int .i64 (ca : Int))) (first | exact HS | exact SC.out _ (BB.out.alloc BB.out.size _) | go_keep)
    (first
      | (go_at_call 54; (first | (with_reducible refine (SM1.out _ BB.out).mono ?_) | (with_reducible refine (SM1.out _ BB.out.drew).mono ?_) | (with_reducible refine (SM2.out _ BB.out).mono ?_) | (with_reducible refine (SM3.out _ BB.out).mono ?_)); rintro e x1 ⟨rfl, hb⟩; have BB := Lib.hid hb; have HS := SC.out x1 hb; clear hb)
      | (go_at_call 27; (with_reducible refine (USED.out _ BB.out).mono ?_); rintro e x1 ⟨rfl, hb⟩; have BB := Lib.hid hb; have HS := SC.out x1 hb; clear hb)
      | (go_at_call 28; (with_reducible refine (MADE.out _ BB.out).mono ?_); rintro e x1 ⟨rfl, hb⟩; have BB := Lib.hid hb; have HS := SC.out x1 hb; clear hb)
      | (go_at_call 29; (with_reducible refine (CELL.out _ BB.out).mono ?_); rintro e x1 ⟨rfl, hb⟩; have BB := Lib.hid hb; have HS := SC.out x1 hb; clear hb)
      | (go_at_call 55; (with_reducible refine (ASKED.out _ _ (BB.out.alloc BB.out.size _) ((Blk.new _ _ _).cell 0)).mono ?_); rintro e x1 ⟨rfl, hb⟩; have BB := Lib.hid hb; have HS := SC.out x1 hb; clear hb))
  go_wp2
  go_ret
  exact ⟨rfl, B6.out.trans (BB.out.mono B6.out.size)⟩
end Go.Proofs.Ytlnlipjnljbegaa
