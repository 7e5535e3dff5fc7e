/- The document's own page (allotmentref09): Alloc: contract. -/
import Derived.Test.YtlnlipjnljbegaaRefP9b
import Derived.Test.YtlnlipjnljbegaaPageFresh
namespace Go.Proofs.Ytlnlipjnljbegaa
open Go.RowKit ListMath PageMath GeoMath
set_option linter.unusedVariables false

theorem cut_tail {α : Type} {E : Elem α} {P : Program} (w0 : World) (t : TypeId) (ht : P.underlying t = some (.slice (P.elem t))) (hsz : ∀ w, (sizeOf (P.elem t)).run P w = .ok E.size w) (a : Option Addr) (n cap k : Nat) (hk : k ≤ n) (hn : n ≤ cap) :
    ∃ a2, (∀ w, (Instr.slice t (.slice a n cap) (some (.int .i64 (k : Int))) none none).run P w = .ok (.slice a2 (n - k) (cap - k)) w) ∧ (∀ b, In (.slice a2 (n - k) (cap - k)) b → In (.slice a n cap) b) ∧ ∀ w l, Seq E w (.slice a n cap) l → Seq E w (.slice a2 (n - k) (cap - k)) (l.drop k) := by
  obtain ⟨sv, h1, h2, h3, _⟩ := cut_from (E := E) (P := P) t ht hsz a n cap k hk hn
  have e := h1 w0
  rw [run_slice_l (P := P) (w := w0) t a n cap ht .i64 (k : Int) (by omega) (by omega), hsz] at e
  simp only [Result.andThen_ok, Int.toNat_natCast] at e
  obtain ⟨a2, h⟩ : ∃ a2, sliced a k n cap E.size = .slice a2 (n - k) (cap - k) := ⟨_, rfl⟩
  have e2 : sv = .slice a2 (n - k) (cap - k) := by
    injection e with e _
    rw [← e]; exact h
  subst e2
  exact ⟨a2, h1, h2, h3⟩
theorem sizeU9 (w : World) : (sizeOf (Try.prog.elem 38)).run Try.prog w = .ok Elem.u64s.size w := by kernel_rfl
/-- The local row, where the free one has none. -/
def swapP (S : PG) : PG := if S.F = [] then { S with F := S.G, G := [] } else S
/-- So many more are made. -/
def moreP (S : PG) (k : Nat) : PG := { S with F := news S.f S.s S.made k, made := S.made + k }
theorem swap_some {S : PG} (h : (swapP S).F ≠ []) : refill S = swapP S := by
  unfold swapP at h ⊢
  by_cases h1 : S.F = []
  · rw [if_pos h1] at h ⊢
    exact (refill_local h1 h).1
  · rw [if_neg h1]; exact (refill_some h1).1
theorem swap_none {S : PG} (h : (swapP S).F = []) : S.F = [] ∧ S.G = [] ∧ swapP S = S := by
  unfold swapP at h ⊢
  by_cases h1 : S.F = []
  · rw [if_pos h1] at h ⊢
    have h2 : S.G = [] := h
    refine ⟨h1, h2, ?_⟩
    cases S
    simp_all
  · rw [if_neg h1] at h; exact absurd h h1
theorem swap_more {S : PG} (h : (swapP S).F = []) : refill S = moreP S (min 4 (S.n - S.made)) := by
  obtain ⟨h1, h2, _⟩ := swap_none h
  exact (refill_more h1 h2).1
theorem refill_none {S : PG} (h : (refill S).F = []) : refill S = S := by
  by_cases h1 : (swapP S).F = []
  · rw [swap_more h1] at h ⊢
    have h2 : (news S.f S.s S.made (min 4 (S.n - S.made))).length = 0 := by
      have h3 : news S.f S.s S.made (min 4 (S.n - S.made)) = [] := h
      rw [h3]; rfl
    rw [news_len] at h2
    rw [h2]
    obtain ⟨h3, _, _⟩ := swap_none h1
    unfold moreP
    cases S
    simp_all [news]
  · rw [swap_some h1] at h
    exact absurd h h1
theorem more_zero {S : PG} (h : S.F = []) : moreP S 0 = S := by
  unfold moreP
  cases S
  simp_all [news]
theorem more_next (S : PG) (k x : Nat) (hx : x = S.f + (S.made + k) * S.s) : moreP S (k + 1) = { moreP S k with F := (moreP S k).F ++ [x], made := (moreP S k).made + 1 } := by
  subst hx
  unfold moreP
  rw [news_snoc]
  rfl
theorem refill_parts (S : PG) : (refill S).f = S.f ∧ (refill S).s = S.s ∧ (refill S).n = S.n ∧ (refill S).used = S.used ∧ (refill S).ct = S.ct ∧ (refill S).ca = S.ca := by
  unfold refill; split
  · exact ⟨rfl, rfl, rfl, rfl, rfl, rfl⟩
  · split <;> exact ⟨rfl, rfl, rfl, rfl, rfl, rfl⟩
def Mored (A : Nat → Prop) (w : World) (q : Nat) (S : PG) (P : List Nat) (m : Nat) (i : Value) (wr : World) : Prop :=
  ∃ k : Nat, k ≤ m ∧ i = .int .i64 (k : Int) ∧ RP A wr q (moreP S k) P ∧ Upd (fun b => b = q) w wr
set_option maxRecDepth 100000 in
set_option maxHeartbeats 4000000 in
theorem refp_alloc (w : World) {A : Nat → Prop} {q : Nat} {S : PG} {P : List Nat} (h : RP A w q S P) (f : FitP S) (hx : ∀ x ∈ (refill S).F, U64B x) (hA : ∀ b, A b → b < w.heap.size) :
    Calls Try.prog 23 #[.pointer (some ⟨q, 0, none⟩)] w fun e w' => e = .returned (.tuple #[.int .u64 ((allocP S).2.1 : Int), .int .i64 (allocP S).2.2]) ∧ RP A w' q (allocP S).1 P ∧ Upd (fun b => b = q) w w' := by
  obtain ⟨i0, hi, hz0, hz1, hz2⟩ := info_parts infoU64
  obtain ⟨⟨SA, XA, EA⟩, hE⟩ : ∃ z, allocP S = z := ⟨_, rfl⟩
  rw [hE]
  have HE := Lib.hid hE
  clear hE
  have hfb := f.f; have hsb := f.s; have hnb := f.n; have hmd := f.made; have husb := f.used; have hlF := f.lF; have hlG := f.lG; have hmay := f.may
  have HX := Lib.hid hx; have HA := Lib.hid hA; have HQ := Lib.hid h.nq; have MAY := Lib.hid hmay
  obtain ⟨aF, cF, aG, cG, aP, cP, k, rF, rG, rP⟩ := h.out
  have hqw := h.lt
  obtain ⟨nF, hnF⟩ : ∃ n, S.F.length = n := ⟨_, rfl⟩
  obtain ⟨nG, hnG⟩ : ∃ n, S.G.length = n := ⟨_, rfl⟩
  have c5 : w.cell? ⟨q, 5, none⟩ = some (.slice aF nF cF) := by rw [← hnF]; exact k.cell 5
  have c6 : w.cell? ⟨q, 6, none⟩ = some (.slice aG nG cG) := by rw [← hnG]; exact k.cell 6
  have f5 := k.frozen 5
  have f6 := k.frozen 6
  have KK := Lib.hid k; have RF := Lib.hid rF; have RG := Lib.hid rG; have RPP := Lib.hid rP; have R0 := Lib.hid h; have NF := Lib.hid hnF; have NG := Lib.hid hnG
  clear k rF rG rP h hx hA hmay
  go_enter Try.func23, Try.ntmps23
  go_upto_if 13 with fail
  go_cut [2] (fun s wx => s = .int .u64 0 ∧ RP A wx q (swapP S) P ∧ Upd (fun b => b = q) w wx)
  case first =>
    by_cases h0 : nF = 0
    · have t1 : ((nF : Int) == 0) = true := by rw [beq_iff_eq]; omega
      have hFn : S.F = [] := List.length_eq_zero_iff.1 (by rw [NF.out]; exact h0)
      have hsw : swapP S = { S with F := S.G, G := [] } := if_pos hFn
      have HSW := Lib.hid hsw
      clear h0 hFn hsw
      go_wp2_with fail
      go_meet
      have u1 : Upd (fun b => b = q) w ((w.setCell ⟨q, 5, none⟩ (.slice aG nG cG)).setCell ⟨q, 6, none⟩ (.slice none 0 0)) := ((Upd.refl (fun b => b = q) w).setCell (p := ⟨q, 5, none⟩) (.inl rfl) _).setCell (p := ⟨q, 6, none⟩) (.inl rfl) _
      refine ⟨rfl, ?_, u1⟩
      rw [HSW.out]
      have k1 := (KK.out.put 5 (.slice aG nG cG)).put 6 (.slice none 0 0)
      rw [← NG.out] at k1 u1 ⊢
      exact ⟨⟨aG, cG, none, 0, aP, cP, k1, RG.out.upd u1 (fun _ h => Or.inr h), Rw.nil _ _, RPP.out.upd u1 (fun _ h => Or.inr h)⟩, HQ.out⟩
    · have t1 : ((nF : Int) == 0) = false := by rw [beq_eq_false_iff_ne]; omega
      have hsw : swapP S = S := if_neg (fun e => h0 (by rw [← NF.out, e]; rfl))
      have HSW := Lib.hid hsw
      clear h0 hsw
      go_wp2_with fail
      go_meet
      rw [HSW.out]
      exact ⟨rfl, R0.out, Upd.refl _ _⟩
  case rest =>
    obtain ⟨rfl, hr1, hu1⟩ := hcut
    have hlen1 : (swapP S).F.length ≤ 1024 := by unfold swapP; split; exact f.lG; exact f.lF
    obtain ⟨aF1, cF1, aG1, cG1, aP1, cP1, k1, rF1, rG1, rP1⟩ := hr1.out
    obtain ⟨n1, hn1⟩ : ∃ n, (swapP S).F.length = n := ⟨_, rfl⟩
    have d5 : wc.cell? ⟨q, 5, none⟩ = some (.slice aF1 n1 cF1) := by rw [← hn1]; exact k1.cell 5
    have R1 := Lib.hid hr1; have U1 := Lib.hid hu1; have N1 := Lib.hid hn1
    clear hr1 hu1 k1 rF1 rG1 rP1 c5 c6 f5 f6 KK RF RG RPP R0
    go_upto_if 29 with fail
    go_cut [2] (fun s wx => s = .int .u64 0 ∧ RP A wx q (refill S) P ∧ Upd (fun b => b = q) w wx)
    case first =>
      by_cases h0 : n1 = 0
      · have t1 : ((n1 : Int) == 0) = true := by rw [beq_iff_eq]; omega
        rw [t1]
        have hFn : (swapP S).F = [] := List.length_eq_zero_iff.1 (by rw [N1.out]; exact h0)
        obtain ⟨g1, g2, g3⟩ := swap_none hFn
        have hrf := swap_more hFn
        have hr2 := R1.out
        rw [g3] at hr2
        have hm0 : moreP S 0 = S := more_zero g1
        rw [← hm0] at hr2
        obtain ⟨m, hm⟩ : ∃ m, min 4 (S.n - S.made) = m := ⟨_, rfl⟩
        rw [hm] at hrf
        obtain ⟨md, hmd2⟩ : ∃ x, S.made = x := ⟨_, rfl⟩
        obtain ⟨nn, hnn⟩ : ∃ x, S.n = x := ⟨_, rfl⟩
        rw [hmd2, hnn] at hmd hm
        rw [hnn] at hnb
        have R2 := Lib.hid hr2; have HRF := Lib.hid hrf; have MD := Lib.hid hmd2; have NN := Lib.hid hnn
        clear h0 hFn g1 g2 g3 hr2 hm0 hrf d5 hmd2 hnn R1
        obtain ⟨ff, hff⟩ : ∃ x, S.f = x := ⟨_, rfl⟩
        obtain ⟨ss, hss⟩ : ∃ x, S.s = x := ⟨_, rfl⟩
        rw [hff] at hfb; rw [hss] at hsb
        have FF := Lib.hid hff; have SS := Lib.hid hss
        have hmay2 := MAY.out
        rw [hff, hss, NN.out] at hmay2
        have MAY2 := Lib.hid hmay2
        clear hff hss hmay2
        go_wp2_with fail
        go_loopw [4] (fun i wr => Mored A w q S P m i wr) (fun i _ => 4 - (intOf i).toNat)
        case atStart => exact ⟨0, Nat.zero_le _, rfl, R2.out, U1.out⟩
        case round =>
          obtain ⟨k, hk, rfl, hr, hu⟩ := hrel
          obtain ⟨aF2, cF2, aG2, cG2, aP2, cP2, k2, rF2, rG2, rP2⟩ := hr.out
          have hlen : (moreP S k).F.length = k := news_len ..
          obtain ⟨mk, hmk⟩ : ∃ x, md + k = x := ⟨_, rfl⟩
          have hmm : (moreP S k).made = mk := by show S.made + k = mk; rw [MD.out]; exact hmk
          have c3 : wr.cell? ⟨q, 3, none⟩ = some (.int .i64 (mk : Int)) := by rw [← hmm]; exact k2.cell 3
          have c2 : wr.cell? ⟨q, 2, none⟩ = some (.int .i64 (nn : Int)) := by rw [← NN.out]; exact k2.cell 2
          have K2 := Lib.hid k2; have RF2 := Lib.hid rF2; have RG2 := Lib.hid rG2; have RP2 := Lib.hid rP2; have RR := Lib.hid hr; have UU := Lib.hid hu; have HLN := Lib.hid hlen; have HMK := Lib.hid hmk; have HMM := Lib.hid hmm
          by_cases hkm : k < m
          · have t1 : decide ((k : Int) < 4) = true := decide_eq_true (by omega)
            have t2 : decide ((mk : Int) < (nn : Int)) = true := decide_eq_true (by omega)
            have t2' : decide (mk < nn) = true := decide_eq_true (by omega)
            have hmkb : mk ≤ 1024 := by omega
            have hk4' : k < 4 := by omega
            have BK := Lib.hid (fun w' => ref_block w' ff ss (nn : Int) (mk : Int) (show ff ≤ _ by omega) (show ss ≤ _ by omega) ⟨by omega, by omega⟩ ⟨by omega, by omega⟩)
            obtain ⟨e1, e2⟩ := block_true MAY2.out (show mk < nn by omega)
            rw [e2] at BK
            obtain ⟨X, hX⟩ : ∃ X, blockN ff ss (nn : Int) (mk : Int) = X := ⟨_, rfl⟩
            rw [hX] at BK e1
            have hX2 : X = ff + mk * ss := by have := cast_mul mk ss; omega
            have HX2 := Lib.hid hX2
            have hXb := (may_iff.1 MAY2.out).2.2.2.2.2
            unfold runV at BK
            have HKM := Lib.hid (show k + 1 ≤ m by omega)
            clear hkm k2 rF2 rG2 rP2 hr hu hlen hmm e1 e2 hX hX2 hXb hmk
            go_wp2_with fail
            go_quiet (fail)
            generalize hW5 : wr.drewN _ = W5
            have b5 : Below wr.heap.size wr W5 := by rw [← hW5]; exact below_drewN (Below.refl _ wr) _
            have k5 := K2.out.grew b5
            have c0 : W5.cell? ⟨q, 0, none⟩ = some (.int .u64 (ff : Int)) := by rw [← FF.out]; exact k5.cell 0
            have c1 : W5.cell? ⟨q, 1, none⟩ = some (.int .u64 (ss : Int)) := by rw [← SS.out]; exact k5.cell 1
            have c2 : W5.cell? ⟨q, 2, none⟩ = some (.int .i64 (nn : Int)) := by rw [← NN.out]; exact k5.cell 2
            have c3 : W5.cell? ⟨q, 3, none⟩ = some (.int .i64 (mk : Int)) := by rw [← HMM.out]; exact k5.cell 3
            have K5 := Lib.hid k5; have B5 := Lib.hid b5
            clear hW5 b5 k5
            go_wp2_with fail
            go_region_held3 (fun w' => w'.cell? ⟨q, 0, none⟩ = some (.int .u64 (ff : Int)) ∧ w'.cell? ⟨q, 1, none⟩ = some (.int .u64 (ss : Int)) ∧ w'.cell? ⟨q, 2, none⟩ = some (.int .i64 (nn : Int)) ∧ w'.cell? ⟨q, 3, none⟩ = some (.int .i64 (mk : Int))) (first | go_keep | exact ⟨c0, c1, c2, c3⟩)
              (first
                | (go_at_call 53; (first | (with_reducible refine (BK.out W5.drew).mono ?_) | (with_reducible refine (BK.out W5).mono ?_)); rintro e w6 ⟨rfl, hb⟩; have hb' := (Below.refl _ W5).drew.trans hb; have k6 := K5.out.grew hb'; have c0 : w6.cell? ⟨q, 0, none⟩ = some (.int .u64 (ff : Int)) := (by rw [← FF.out]; exact k6.cell 0); have c1 : w6.cell? ⟨q, 1, none⟩ = some (.int .u64 (ss : Int)) := (by rw [← SS.out]; exact k6.cell 1); have c2 : w6.cell? ⟨q, 2, none⟩ = some (.int .i64 (nn : Int)) := (by rw [← NN.out]; exact k6.cell 2); have c3 : w6.cell? ⟨q, 3, none⟩ = some (.int .i64 (mk : Int)) := (by rw [← HMM.out]; exact k6.cell 3); have K6 := Lib.hid k6; have B6 := Lib.hid hb'; clear hb hb' k6))
            clear c0 c1 c2
            obtain ⟨b6, hb6⟩ : ∃ b, w6.heap.size = b := ⟨_, rfl⟩
            have hqb6 : q < b6 := by rw [← hb6]; exact K6.out.lt
            have b26 : Below wr.heap.size wr w6 := B5.out.trans (B6.out.mono B5.out.size)
            obtain ⟨FL, hFL⟩ : ∃ l, (moreP S k).F = l := ⟨_, rfl⟩
            have hfl : FL.length = k := by rw [← hFL]; exact HLN.out
            have c5a : (w6.alloc (.cells #[] 22)).cell? ⟨q, 5, none⟩ = some (.slice aF2 k cF2) := by rw [← HLN.out]; exact (K6.out.alloc _).cell 5
            have VN := Lib.hid (vec_newAt9 w6 22 b6 hb6.symm)
            have SL : Seq Elem.u64s (w6.alloc (.cells #[] 22)) (.slice aF2 k cF2) FL := by
              have h1 := (RF2.out.upd (updFalse_of b26) (fun _ h => h.elim)).1
              rw [HLN.out, hFL] at h1
              exact h1.alloc _
            have SL := Lib.hid SL; have HFL := Lib.hid hFL; have LFL := Lib.hid hfl; have HB6 := Lib.hid hb6; have B26 := Lib.hid b26
            obtain ⟨mk1, hmk1⟩ : ∃ n, mk + 1 = n := ⟨_, rfl⟩
            have e3 : (mk : Int) + 1 = (mk1 : Int) := by omega
            have hmk1b : mk1 ≤ 1025 := by omega
            have MK1 := Lib.hid hmk1
            have hk4 : k ≤ 4 := by omega
            clear hFL hfl b26 hmk1
            go_wp2_with (at_builtin; first
              | (refine wpList_append_vec (E := Elem.u64s) rfl (.tmp 59) (.tmp 63) 38 rfl 22 i0 (.int .u64 0) 8 Try.underlying38 hi hz0 hz1 hz2 rfl (.slice (some ⟨b6, 0, none⟩) 0 0) (.slice aF2 k cF2) [] FL rfl rfl VN.out SL.out ?_ ?_ ?_
                 · rw [LFL.out]; simp only [maxLen, List.length_nil]; omega
                 · rw [LFL.out]; simp only [List.length_nil]; omega
                 intro v1 w7 hv1 hu1 hin1
                 have B7 : Hid (Below w6.heap.size w6 w7) := Lib.hid (((Below.refl _ w6).alloc (Nat.le_refl _) _).trans (hu1.below (fun j hj => by rw [← in_at9 hj, HB6.out]; exact Nat.le_refl _) (by simp)))
                 have N7 : Hid (∀ j, In v1 j → w6.heap.size ≤ j) := Lib.hid (fun j hj => by rcases hin1 j hj with x | x; (rw [← in_at9 x, HB6.out]; exact Nat.le_refl _); (simp at x; omega))
                 have V7 := Lib.hid hv1
                 clear hv1 hu1 hin1)
              | (refine wpList_append_vec (E := Elem.u64s) rfl (.tmp 64) (.tmp 66) 38 rfl 22 i0 (.int .u64 0) 8 Try.underlying38 hi hz0 hz1 hz2 rfl v1 (.slice (some ⟨w7.heap.size, 0, none⟩) 1 1) ([] ++ FL) [X] rfl rfl (V7.out.alloc _) (u64_oneAt _ _ X _ rfl) ?_ ?_ ?_
                 · rw [List.nil_append, LFL.out]; simp only [maxLen, List.length_cons, List.length_nil]; omega
                 · rw [List.nil_append, LFL.out]; simp only [List.length_cons, List.length_nil]; omega
                 intro v2 w8 hv2 hu2 hin2
                 rw [List.nil_append] at hv2
                 have B8 : Hid (Below w6.heap.size w6 w8) := Lib.hid (((B7.out.alloc B7.out.size _)).trans (hu2.below (fun j hj => N7.out j hj) (Nat.le_trans B7.out.size (by simp))))
                 have N8 : Hid (∀ j, In v2 j → w6.heap.size ≤ j) := Lib.hid (fun j hj => by rcases hin2 j hj with x | x; exact N7.out j x; (have := B7.out.size; simp at x; omega))
                 obtain ⟨a8, cap8, rfl, hc1, hc2⟩ := hv2.slice'
                 have V8 := Lib.hid hv2
                 have K8 := Lib.hid (K6.out.grew B8.out)
                 have d5 : w8.cell? ⟨q, 5, none⟩ = some (.slice aF2 k cF2) := by rw [← HLN.out]; exact K8.out.cell 5
                 have g5 : w8.frozen? ⟨q, 5, none⟩ = false := K8.out.frozen 5
                 have d3 : w8.cell? ⟨q, 3, none⟩ = some (.int .i64 (mk : Int)) := by rw [← HMM.out]; exact K8.out.cell 3
                 have g3 : w8.frozen? ⟨q, 3, none⟩ = false := K8.out.frozen 3
                 clear hv2 hu2 hin2 c5a c3))
            have W8 : Upd (fun b => b = q) wr w8 := (updFalse_of (B26.out.trans (B8.out.mono B26.out.size))).mono fun _ h => h.elim
            have u9 : Upd (fun b => b = q) w8 ((w8.setCell ⟨q, 5, none⟩ (.slice a8 (FL.length + 1) cap8)).setCell ⟨q, 3, none⟩ (.int .i64 (mk1 : Int))) := ((Upd.refl (fun b => b = q) w8).setCell (p := ⟨q, 5, none⟩) (.inl rfl) _).setCell (p := ⟨q, 3, none⟩) (.inl rfl) _
            have k9 := (K8.out.put 5 (.slice a8 (FL.length + 1) cap8)).put 3 (.int .i64 (mk1 : Int))
            have hAb : ∀ b, A b → b < w6.heap.size := fun b hb => by have h1 := HA.out b hb; have h2 := UU.out.size; have h3 := B26.out.size; omega
            have hv8 := V8.out
            have rF' : Rw (fun b => A b ∨ b = q) w8 a8 cap8 (FL ++ [X]) := rw_fresh hv8 hc1 hc2 N8.out hAb (by rw [HB6.out]; exact hqb6)
            have hRP : RP A ((w8.setCell ⟨q, 5, none⟩ (.slice a8 (FL.length + 1) cap8)).setCell ⟨q, 3, none⟩ (.int .i64 (mk1 : Int))) q (moreP S (k + 1)) P := by
              rw [more_next S k X (by rw [FF.out, SS.out, MD.out, HMK.out]; exact HX2.out), HFL.out, HMM.out, MK1.out]
              refine ⟨⟨a8, cap8, aG2, cG2, aP2, cP2, ?_, rF'.upd u9 (fun _ h => Or.inr h), RG2.out.upd (W8.trans u9) (fun _ h => Or.inr h), RP2.out.upd (W8.trans u9) (fun _ h => Or.inr h)⟩, HQ.out⟩
              show Blk _ q _ (pgC { moreP S k with F := FL ++ [X], made := mk1 } (.slice a8 (FL ++ [X]).length cap8) _ _)
              rw [show (FL ++ [X]).length = FL.length + 1 by simp]
              exact k9
            go_roundw
            case rel => exact ⟨k + 1, HKM.out, by go_num, hRP, UU.out.trans (W8.trans u9)⟩
            case measure => simp [intOf]; omega
          · have hkm' : k = m := by omega
            have hfin : RP A wr q (refill S) P := by rw [HRF.out, ← hkm']; exact RR.out
            have FIN := Lib.hid hfin
            by_cases h4 : k < 4
            · have t1 : decide ((k : Int) < 4) = true := decide_eq_true (by omega)
              have t2 : decide ((mk : Int) < (nn : Int)) = false := decide_eq_false (by omega)
              have t2' : decide (mk < nn) = false := decide_eq_false (by omega)
              clear hkm hkm' h4 hfin hr hu hlen hmm hmk k2 rF2 rG2 rP2
              go_wp2_with fail
              go_quiet (fail)
              go_wp2_with fail
              go_meet
              exact ⟨rfl, FIN.out.grew (below_drewN (Below.refl _ wr) _), ⟨UU.out.os, UU.out.tape, UU.out.output, UU.out.size, UU.out.block⟩⟩
            · have t1 : decide ((k : Int) < 4) = false := decide_eq_false (by omega)
              clear hkm hkm' h4 hfin hr hu hlen hmm hmk k2 rF2 rG2 rP2 c2 c3
              go_wp2_with fail
              go_quiet (fail)
              go_wp2_with fail
              go_meet
              exact ⟨rfl, FIN.out.grew (below_drewN (Below.refl _ wr) _), ⟨UU.out.os, UU.out.tape, UU.out.output, UU.out.size, UU.out.block⟩⟩
      · have t1 : ((n1 : Int) == 0) = false := by rw [beq_eq_false_iff_ne]; omega
        have hrf : refill S = swapP S := swap_some (fun e => h0 (by rw [← N1.out, e]; rfl))
        have HRF := Lib.hid hrf
        clear h0 hrf
        go_wp2_with fail
        go_meet
        rw [HRF.out]
        exact ⟨rfl, R1.out, U1.out⟩
    case rest =>
      obtain ⟨rfl, hr2, hu2⟩ := hcut
      obtain ⟨aF2, cF2, aG2, cG2, aP2, cP2, k2, rF2, rG2, rP2⟩ := hr2.out
      have R2 := Lib.hid hr2; have U2 := Lib.hid hu2; have K2 := Lib.hid k2; have RF2 := Lib.hid rF2; have RG2 := Lib.hid rG2; have RP2 := Lib.hid rP2
      cases hF : (refill S).F with
      | nil =>
        have hal : allocP S = (S, 0, 4) := by unfold allocP; rw [hF]
        have hrf := refill_none hF
        have hal := HE.out.symm.trans hal
        simp only [Prod.mk.injEq] at hal
        obtain ⟨rfl, rfl, rfl⟩ := hal
        have c5 : wc.cell? ⟨q, 5, none⟩ = some (.slice aF2 0 cF2) := by have := k2.cell 5; rw [hF] at this; exact this
        rw [hrf] at R2
        clear hr2 hu2 k2 rF2 rG2 rP2 K2 RF2 RG2 RP2 hF hrf d5 R1 HE
        go_wp2
        go_ret2
        exact ⟨rfl, R2.out, U2.out⟩
      | cons x tl =>
        have hal : allocP S = ({ refill S with F := tl, used := S.used + 1 }, x, 0) := by unfold allocP; rw [hF]
        have hal := HE.out.symm.trans hal
        simp only [Prod.mk.injEq] at hal
        obtain ⟨rfl, hXA, rfl⟩ := hal
        obtain rfl : x = XA := hXA.symm
        have hxb : U64B x := HX.out x (by rw [hF]; exact List.mem_cons_self ..)
        obtain ⟨n2, hn2⟩ : ∃ n, tl.length = n := ⟨_, rfl⟩
        obtain ⟨n3, hn3⟩ : ∃ n, n2 + 1 = n := ⟨_, rfl⟩
        obtain ⟨us, hus⟩ : ∃ n, S.used = n := ⟨_, rfl⟩
        obtain ⟨us1, hus1⟩ : ∃ n, us + 1 = n := ⟨_, rfl⟩
        have e4 : (us : Int) + 1 = (us1 : Int) := by omega
        have hus1b : us1 ≤ 1000001 := by omega
        have hup := (refill_parts S).2.2.2.1
        rw [hF] at rF2 k2
        obtain ⟨h1, h2, h3, h4⟩ := rF2
        rw [List.length_cons, hn2, hn3] at h1 h2 h4 k2
        have c5 : wc.cell? ⟨q, 5, none⟩ = some (.slice aF2 n3 cF2) := k2.cell 5
        have f5 : wc.frozen? ⟨q, 5, none⟩ = false := k2.frozen 5
        have c4 : wc.cell? ⟨q, 4, none⟩ = some (.int .i64 (us : Int)) := by have := k2.cell 4; rw [← hus, ← hup]; exact this
        have f4 : wc.frozen? ⟨q, 4, none⟩ = false := k2.frozen 4
        obtain ⟨bv, ov, rfl, hcl⟩ := h1.elem (i := 0) (x := x) rfl
        have y0 := hcl 0 (.int .u64 (x : Int)) rfl
        simp only [Elem.u64s, Nat.add_zero, Nat.zero_mul] at y0
        obtain ⟨a3, hsl, hin3, hsq3⟩ := cut_tail (E := Elem.u64s) (P := Try.prog) wc 38 Try.underlying38 sizeU9 (some ⟨bv, ov, none⟩) n3 cF2 1 (by omega) h2
        have hsl1 : ∀ w, (Instr.slice 38 (.slice (some ⟨bv, ov, none⟩) n3 cF2) (some (.int .i64 1)) none none).run Try.prog w = .ok (.slice a3 n2 (cF2 - 1)) w := by have := hsl; rw [show n3 - 1 = n2 by omega] at this; exact this
        rw [show n3 - 1 = n2 by omega] at hin3 hsq3
        have z1 : ((n3 : Int) == 0) = false := by rw [beq_eq_false_iff_ne]; omega
        have zp : (0 : Int) < (n3 : Int) := by omega
        have zp' : 0 < n3 := by omega
        have rF3 : Rw (fun b => A b ∨ b = q) wc a3 (cF2 - 1) tl := by
          refine ⟨by rw [hn2]; exact hsq3 wc _ h1, by omega, by omega, fun b hb => ?_⟩
          rw [hn2] at hb
          exact h4 b (hin3 b hb)
        have RF3 := Lib.hid rF3; have N2 := Lib.hid hn2; have KK2 := Lib.hid k2; have US := Lib.hid hus; have US1 := Lib.hid hus1
        clear hr2 hu2 k2 rG2 rP2 K2 RF2 hF d5 R1 R2 HE h1 h2 h3 h4 hcl hsl hin3 hsq3 rF3 hn2 hn3 hus hus1 hup
        go_wp2
        go_ret2
        have u5 : Upd (fun b => b = q) wc ((wc.setCell ⟨q, 5, none⟩ (.slice a3 n2 (cF2 - 1))).setCell ⟨q, 4, none⟩ (.int .i64 (us1 : Int))) := ((Upd.refl (fun b => b = q) wc).setCell (p := ⟨q, 5, none⟩) (.inl rfl) _).setCell (p := ⟨q, 4, none⟩) (.inl rfl) _
        have k5 := (KK2.out.put 5 (.slice a3 n2 (cF2 - 1))).put 4 (.int .i64 (us1 : Int))
        refine ⟨rfl, ⟨⟨a3, cF2 - 1, aG2, cG2, aP2, cP2, ?_, RF3.out.upd u5 (fun _ h => Or.inr h), RG2.out.upd u5 (fun _ h => Or.inr h), RP2.out.upd u5 (fun _ h => Or.inr h)⟩, HQ.out⟩, U2.out.trans u5⟩
        show Blk _ q _ (pgC { refill S with F := tl, used := S.used + 1 } (.slice a3 tl.length (cF2 - 1)) _ _)
        rw [N2.out, US.out, US1.out]
        exact k5
end Go.Proofs.Ytlnlipjnljbegaa
