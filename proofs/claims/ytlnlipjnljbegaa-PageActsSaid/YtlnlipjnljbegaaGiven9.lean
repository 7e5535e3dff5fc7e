/- The laws' 'given' of layer 9: a block goes back, in both. -/
import Derived.Test.YtlnlipjnljbegaaRows9
namespace Go.Proofs.Ytlnlipjnljbegaa
open Go.RowKit Go.Maps ListMath PageMath GeoMath
set_option linter.unusedVariables false

section
variable {w : World} {C : PgC w} {pp p g nb q : Nat} {O A : Nat → Prop} {c : Addr} {U P L : List Nat} {S : PG} {w' : World}
theorem Upd.orL {Z Y : Nat → Prop} {a b : World} (h : Upd Z a b) : Upd (fun x => Z x ∨ Y x) a b := h.mono fun _ x => Or.inl x
theorem Upd.orR {Z Y : Nat → Prop} {a b : World} (h : Upd Z a b) : Upd (fun x => Y x ∨ Z x) a b := h.mono fun _ x => Or.inr x
set_option maxHeartbeats 1000000 in
theorem given_one {x : Nat} {R : List Nat} (h : PB w C pp p g O nb c q A U P L S S P w') (f : FitP S) (hp : U.Perm (x :: R)) :
    Calls Try.prog 21 #[.pointer (some ⟨pp, 0, none⟩), .pointer (some ⟨q, 0, none⟩), .int .i64 1, .int .u64 (x : Int)] w' fun e w2 => e = .returned (.bool true) ∧ ∃ L', PB w C pp p g O nb c q A R P L' (freed1 S x) (freed1 S x) P w2 ∧ Upd (fun b => O b ∨ b = q) w' w2 := by
  have hxU : x ∈ U := hp.mem_iff.2 (List.mem_cons_self ..)
  have hg0 := given_blk h.good (h.wh.inU x hxU)
  have huse := h.wh.use
  have hlen := hp.length_eq
  simp only [List.length_cons] at hlen
  have hfit := h.wh.fits h.good hxU
  have hbig := h.good.big
  have FR := Lib.hid (pb_free (h.alloc (.cells #[.int .u64 (x : Int)] 22)) hp (u64_oneAt w' 22 x _ rfl) h.has.size)
  have BK : Hid (∀ L' w1, PB w C pp p g O nb c q A R P L' (freed1 S x) S P w1 → Calls Try.prog 49 #[.pointer (some ⟨q, 0, none⟩), .int .u64 (x : Int)] w1 fun e w2 => e = .returned (.int .i64 0) ∧ PB w C pp p g O nb c q A R P L' (freed1 S x) (freed1 S x) P w2 ∧ Upd (fun b => b = q) w1 w2) := Lib.hid fun L' w1 h1 => pb_back h1 f (show x ≤ _ by omega) hg0 (by omega)
  clear h hxU hg0 huse hlen hfit hbig
  go_enter Try.func21, Try.ntmps21
  go_wp2_with fail
  refine FR.out.mono ?_; rintro e w1 ⟨L', rfl, h1, u1⟩
  have H1 := Lib.hid h1
  have U1 : Hid (Upd (fun b => O b ∨ b = q) w' w1) := Lib.hid ((((Upd.refl (fun _ => False) w').alloc _).mono fun _ h => h.elim).trans u1.orL)
  clear h1 u1
  go_wp2_with fail
  refine (BK.out L' _ H1.out).mono ?_; rintro e w2 ⟨rfl, h2, u2⟩
  have H2 := Lib.hid h2
  have U2 : Hid (Upd (fun b => O b ∨ b = q) w' w2) := Lib.hid (U1.out.trans u2.orR)
  clear h2 u2
  go_wp2
  go_ret
  exact ⟨rfl, L', H2.out, U2.out⟩
set_option maxHeartbeats 2000000 in
theorem given_two {x : Nat} {R : List Nat} (h : PB w C pp p g O nb c q A U P L S S P w') (f : FitP S) (hca : S.ca + 1 ≤ 1000000) (hp : U.Perm (x :: R)) :
    Calls Try.prog 21 #[.pointer (some ⟨pp, 0, none⟩), .pointer (some ⟨q, 0, none⟩), .int .i64 2, .int .u64 (x : Int)] w' fun e w2 => e = .returned (.bool true) ∧ ∃ L', PB w C pp p g O nb c q A R (x :: P) L' (S.asked.wrote x) (S.asked.wrote x) (x :: P) w2 ∧ Upd (fun b => O b ∨ b = q) w' w2 := by
  have hxU : x ∈ U := hp.mem_iff.2 (List.mem_cons_self ..)
  have hfit := h.wh.fits h.good hxU
  have hbig := h.good.big
  have hct := f.ct
  have hPl : P.length ≤ 1024 := by have h1 := h.wh.use; have h2 := h.wh.add; have h3 := h.good.made; have h4 := h.good.n2; omega
  have CE := Lib.hid ((has_cell h.has).mono fun e w1 ⟨h1, _, h3⟩ => (show e = Ending.returned (.pointer (some c)) ∧ PB w C pp p g O nb c q A U P L S S P w1 ∧ Upd (fun _ => False) w' w1 from ⟨h1, h.grew h3, updFalse_of h3⟩))
  have LD := Lib.hid (fun w1 (h1 : PB w C pp p g O nb c q A U P L S S P w1) => pb_load h1)
  have PO := Lib.hid (fun w1 (h1 : PB w C pp p g O nb c q A U P L S.asked S.asked P w1) => pb_post h1 hp (show S.ct ≤ _ by omega))
  have RP := Lib.hid (fun L' T w1 (h1 : PB w C pp p g O nb c q A R (x :: P) L' T S.asked P w1) => pb_rpost h1 (f.ask hca) hPl (show x ≤ _ by omega) (show S.ct ≤ _ by omega))
  have e1 : postP S.asked x S.ct = (S.asked.wrote x, true) := if_pos rfl
  have e2 : (if S.ct = S.asked.ct then x :: P else P) = x :: P := if_pos rfl
  rw [e1, e2] at RP
  obtain ⟨ca, hcae⟩ : ∃ n, S.ca = n := ⟨_, rfl⟩
  obtain ⟨ca1, hca1⟩ : ∃ n, ca + 1 = n := ⟨_, rfl⟩
  obtain ⟨cw, hcw⟩ : ∃ n, S.cw = n := ⟨_, rfl⟩
  obtain ⟨ct, hcte⟩ : ∃ n, S.ct = n := ⟨_, rfl⟩
  have CA := Lib.hid hcae; have CA1 := Lib.hid hca1
  have e9 : (ca : Int) + 1 = (ca1 : Int) := by omega
  have hb9 : ca1 ≤ 1000001 := by omega
  have PO2 : Hid (∀ w1, PB w C pp p g O nb c q A U P L S.asked S.asked P w1 → Calls Try.prog 20 #[.pointer (some ⟨pp, 0, none⟩), .int .u64 (x : Int), .int .u64 (cw : Int), .int .u64 (ct : Int)] w1 fun e w2 => e = .returned (.tuple #[.bool true, .int .i64 0]) ∧ PB w C pp p g O nb c q A R (x :: P) (MemMath.put8 L x S.asked.cw) (S.asked.wrote x) S.asked P w2 ∧ Upd O w1 w2) := Lib.hid fun w1 h1 => by rw [← hcw, ← hcte]; exact PO.out w1 h1
  rw [hcw, hcte] at LD
  rw [hcte] at RP
  clear h hxU hfit hbig hPl e1 e2 hcae hca1 hcw hcte PO
  go_enter Try.func21, Try.ntmps21
  go_wp2_with fail
  refine CE.out.mono ?_; rintro e w1 ⟨rfl, h1, u1⟩
  have H1 := Lib.hid h1; have U1 := Lib.hid u1
  clear h1 u1
  go_wp2_with fail
  refine (LD.out _ H1.out).mono ?_; rintro e w2 ⟨rfl, h2, u2⟩
  have c9 : w2.cell? ⟨q, 9, none⟩ = some (.int .i64 (ca : Int)) := by rw [← CA.out]; exact h2.c9
  have f9 : w2.frozen? ⟨q, 9, none⟩ = false := h2.frozen 9
  obtain ⟨h3, u3⟩ := h2.ask (ca1 : Int) (by rw [CA.out, CA1.out])
  obtain ⟨W3, hW3⟩ : ∃ W, w2.setCell ⟨q, 9, none⟩ (.int .i64 (ca1 : Int)) = W := ⟨_, rfl⟩
  have HW3 := Lib.hid hW3
  rw [hW3] at h3 u3
  have H3 := Lib.hid h3
  have U3 : Hid (Upd (fun b => O b ∨ b = q) w' W3) := Lib.hid ((U1.out.mono fun _ h => h.elim).trans (u2.orL.trans u3.orR))
  clear h2 u2 h3 u3 hW3
  go_wp2_with fail
  rw [HW3.out]
  refine (PO2.out _ H3.out).mono ?_; rintro e w4 ⟨rfl, h4, u4⟩
  have H4 := Lib.hid h4
  have U4 : Hid (Upd (fun b => O b ∨ b = q) w' w4) := Lib.hid (U3.out.trans u4.orL)
  clear h4 u4 c9 f9
  go_wp2_with fail
  refine (RP.out _ _ _ H4.out).mono ?_; rintro e w5 ⟨rfl, h5, u5⟩
  have H5 := Lib.hid h5
  have U5 : Hid (Upd (fun b => O b ∨ b = q) w' w5) := Lib.hid (U4.out.trans u5.orR)
  clear h5 u5
  go_wp2
  go_ret
  exact ⟨rfl, _, H5.out, U5.out⟩
set_option maxHeartbeats 2000000 in
theorem given_three {x : Nat} (h : PB w C pp p g O nb c q A U P L S S P w') (f : FitP S) (hca : S.ca + 1 ≤ 1000000) (hxU : x ∈ U) :
    Calls Try.prog 21 #[.pointer (some ⟨pp, 0, none⟩), .pointer (some ⟨q, 0, none⟩), .int .i64 3, .int .u64 (x : Int)] w' fun e w2 => e = .returned (.bool true) ∧ ∃ L', PB w C pp p g O nb c q A U P L' S.asked.asked S.asked.asked P w2 ∧ Upd (fun b => O b ∨ b = q) w' w2 := by
  have hfit := h.wh.fits h.good hxU
  have hbig := h.good.big
  have hct := f.ct
  have hPl : P.length ≤ 1024 := by have h1 := h.wh.use; have h2 := h.wh.add; have h3 := h.good.made; have h4 := h.good.n2; omega
  have CE := Lib.hid ((has_cell h.has).mono fun e w1 ⟨h1, _, h3⟩ => (show e = Ending.returned (.pointer (some c)) ∧ PB w C pp p g O nb c q A U P L S S P w1 ∧ Upd (fun _ => False) w' w1 from ⟨h1, h.grew h3, updFalse_of h3⟩))
  have LD := Lib.hid (fun w1 (h1 : PB w C pp p g O nb c q A U P L S S P w1) => pb_load h1)
  have PO := Lib.hid (fun w1 (h1 : PB w C pp p g O nb c q A U P L S.asked S.asked P w1) => pb_late (t := S.ct + 1) h1 hxU (by omega) (show S.ct + 1 ≠ S.ct by omega) (show S.ct ≤ _ by omega))
  have RP := Lib.hid (fun L' T w1 (h1 : PB w C pp p g O nb c q A U P L' T S.asked P w1) => pb_rpost (t := S.ct + 1) h1 (f.ask hca) hPl (show x ≤ _ by omega) (show S.ct + 1 ≤ _ by omega))
  have e1 : postP S.asked x (S.ct + 1) = (S.asked.asked, false) := if_neg (show ¬ S.ct + 1 = S.ct by omega)
  have e2 : (if S.ct + 1 = S.asked.ct then x :: P else P) = P := if_neg (show ¬ S.ct + 1 = S.ct by omega)
  rw [e1, e2] at RP
  obtain ⟨ca, hcae⟩ : ∃ n, S.ca = n := ⟨_, rfl⟩
  obtain ⟨ca1, hca1⟩ : ∃ n, ca + 1 = n := ⟨_, rfl⟩
  obtain ⟨cw, hcw⟩ : ∃ n, S.cw = n := ⟨_, rfl⟩
  obtain ⟨ct, hcte⟩ : ∃ n, S.ct = n := ⟨_, rfl⟩
  obtain ⟨ct1, hct1⟩ : ∃ n, S.ct + 1 = n := ⟨_, rfl⟩
  have CA := Lib.hid hcae; have CA1 := Lib.hid hca1
  have e9 : (ca : Int) + 1 = (ca1 : Int) := by omega
  have hb9 : ca1 ≤ 1000001 := by omega
  have e8 : (ct : Int) + 1 = (ct1 : Int) := by omega
  have hb8 : ct1 ≤ 1000001 := by omega
  have PO2 : Hid (∀ w1, PB w C pp p g O nb c q A U P L S.asked S.asked P w1 → Calls Try.prog 20 #[.pointer (some ⟨pp, 0, none⟩), .int .u64 (x : Int), .int .u64 (cw : Int), .int .u64 (ct1 : Int)] w1 fun e w2 => e = .returned (.tuple #[.bool false, .int .i64 0]) ∧ PB w C pp p g O nb c q A U P (MemMath.put8 L x S.asked.cw) S.asked.asked S.asked P w2 ∧ Upd O w1 w2) := Lib.hid fun w1 h1 => by rw [← hcw, ← hct1]; exact PO.out w1 h1
  rw [hcw, hcte] at LD
  rw [hct1] at RP
  clear h hxU hfit hbig hPl e1 e2 hcae hca1 hcw hcte hct1 PO
  go_enter Try.func21, Try.ntmps21
  go_wp2_with fail
  refine CE.out.mono ?_; rintro e w1 ⟨rfl, h1, u1⟩
  have H1 := Lib.hid h1; have U1 := Lib.hid u1
  clear h1 u1
  go_wp2_with fail
  refine (LD.out _ H1.out).mono ?_; rintro e w2 ⟨rfl, h2, u2⟩
  have c9 : w2.cell? ⟨q, 9, none⟩ = some (.int .i64 (ca : Int)) := by rw [← CA.out]; exact h2.c9
  have f9 : w2.frozen? ⟨q, 9, none⟩ = false := h2.frozen 9
  obtain ⟨h3, u3⟩ := h2.ask (ca1 : Int) (by rw [CA.out, CA1.out])
  obtain ⟨W3, hW3⟩ : ∃ W, w2.setCell ⟨q, 9, none⟩ (.int .i64 (ca1 : Int)) = W := ⟨_, rfl⟩
  have HW3 := Lib.hid hW3
  rw [hW3] at h3 u3
  have H3 := Lib.hid h3
  have U3 : Hid (Upd (fun b => O b ∨ b = q) w' W3) := Lib.hid ((U1.out.mono fun _ h => h.elim).trans (u2.orL.trans u3.orR))
  clear h2 u2 h3 u3 hW3
  go_wp2_with fail
  rw [HW3.out]
  refine (PO2.out _ H3.out).mono ?_; rintro e w4 ⟨rfl, h4, u4⟩
  have H4 := Lib.hid h4
  have U4 : Hid (Upd (fun b => O b ∨ b = q) w' w4) := Lib.hid (U3.out.trans u4.orL)
  clear h4 u4 c9 f9
  go_wp2_with fail
  refine (RP.out _ _ _ H4.out).mono ?_; rintro e w5 ⟨rfl, h5, u5⟩
  have H5 := Lib.hid h5
  have U5 : Hid (Upd (fun b => O b ∨ b = q) w' w5) := Lib.hid (U4.out.trans u5.orR)
  clear h5 u5
  go_wp2
  go_ret
  exact ⟨rfl, _, H5.out, U5.out⟩
end
end Go.Proofs.Ytlnlipjnljbegaa
