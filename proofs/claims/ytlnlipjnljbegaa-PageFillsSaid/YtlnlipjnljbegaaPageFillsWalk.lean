/- The law PageFills, walked. -/
import Derived.Test.YtlnlipjnljbegaaIn9
namespace Go.Proofs.Ytlnlipjnljbegaa.pageFills
open Go.RowKit Go.Maps ListMath PageMath GeoMath
set_option linter.unusedVariables false

/-- So many came again: what the map has. -/
def Again (w : World) (C : PgC w) (pp p g : Nat) (O : Nat → Prop) (nb : Nat) (c : Addr) (S : PG) (A R : List Nat) (n k b9 b20 : Nat) (c9 : Array Value) (v i : Value) (wr : World) : Prop :=
  ∃ (j : Nat) (D : DataW Unit) (L : List Nat), j ≤ n ∧ i = .int .i64 (j : Int) ∧ Has C pp p g O nb c L (again S R j) wr ∧ Row v A k wr ∧ Blk wr b9 34 c9 ∧ wr.ownsMap Try.prog 22 (plainElem Try.prog 4) b20 j D ∧ MetU D (R.take j)
set_option maxRecDepth 100000 in
set_option maxHeartbeats 8000000 in
theorem walk_of (w : World) (C : PgC w) (sz : Int) (hsw : (Lit.int .u8 sz).wf = true) (nn : Int) (hnw : (Lit.int .u8 nn).wf = true) (ct : Int) (hcw : (Lit.int .u8 ct).wf = true) :
    Calls Try.prog 4 #[.int .u8 sz, .int .u8 nn, .int .u8 ct] w fun e w' => e = .returned (.bool true) ∧ Below w.heap.size w w' := by
  obtain ⟨e1, hs1⟩ := u8_of hsw
  obtain ⟨e2, hs2⟩ := u8_of hnw
  obtain ⟨e3, hs3⟩ := u8_of hcw
  obtain ⟨A, hA⟩ : ∃ A, sz.toNat = A := ⟨_, rfl⟩
  obtain ⟨B, hB⟩ : ∃ B, nn.toNat = B := ⟨_, rfl⟩
  obtain ⟨T, hT⟩ : ∃ T, ct.toNat = T := ⟨_, rfl⟩
  rw [hA] at e1 hs1; rw [hB] at e2 hs2; rw [hT] at e3 hs3
  subst e1 e2 e3
  clear hsw hnw hcw hA hB hT
  obtain ⟨i0, hi, hz0, hz1, hz2⟩ := info_parts infoU64
  go_enter Try.func4, Try.ntmps4
  go_wp2_with fail
  refine (alive_any _ C).mono ?_; rintro e w1 ⟨rfl, hb⟩
  have B1 := Lib.hid hb
  clear hb
  go_wp2_with fail
  refine (made_any w C A B hs1 hs2 _ B1.out).mono ?_; rintro e w2 ⟨pp, p, g, O, nb, c, L0, rfl, hh, hl0, hnb⟩
  have hsb := size_bd A
  have hnb2 := count_bd B
  obtain ⟨s, hs⟩ : ∃ s, sizeN A = s := ⟨_, rfl⟩
  obtain ⟨n, hn⟩ : ∃ n, countN B = n := ⟨_, rfl⟩
  rw [hs] at hh hsb
  rw [hn] at hh hnb2
  rw [hs, hn]
  obtain ⟨s16, s256⟩ := hsb
  obtain ⟨n1, n60⟩ := hnb2
  have H2 := Lib.hid hh; have LN := Lib.hid hl0; have HNB := Lib.hid hnb
  have hmay : mayN 1024 s (n : Int) = true := (C.good hh.pg).may
  have MAY := Lib.hid hmay
  clear hh hl0 hnb hs hn hmay
  unfold runV
  have b9 := Blk.new w2 34 #[.int .u64 1024, .int .u64 (s : Int), .int .i64 (n : Int)]
  have h3 := H2.out.alloc (.cells #[.int .u64 1024, .int .u64 (s : Int), .int .i64 (n : Int)] 34)
  obtain ⟨w3, hw3⟩ : ∃ x, w2.alloc (.cells #[.int .u64 1024, .int .u64 (s : Int), .int .i64 (n : Int)] 34) = x := ⟨_, rfl⟩
  have s3 : w3.heap.size = w2.heap.size + 1 := by rw [← hw3]; simp
  rw [hw3] at b9 h3
  obtain ⟨k9, hk9⟩ : ∃ k, w2.heap.size = k := ⟨_, rfl⟩
  rw [hk9] at b9
  have f2 : w3.cell? ⟨k9, 2, none⟩ = some (.int .i64 (n : Int)) := b9.cell 2
  have H3 := Lib.hid h3; have B9 := Lib.hid b9
  have hs3 : w3.heap.size = k9 + 1 := by omega
  have hnb9 : nb = k9 := by rw [HNB.out, hk9]
  have S3 := Lib.hid hs3; have NB9 := Lib.hid hnb9
  clear h3 b9 s3 hs3 hnb9
  go_wp2_with fail
  clear hw3 hk9 f2
  go_loopw [11, 39] (fun v i wr => CameTo w C pp p g O nb c s n (k9 + 1) k9 34 #[.int .u64 1024, .int .u64 (s : Int), .int .i64 (n : Int)] v i wr) (fun _ i _ => n - (intOf i).toNat)
  case atStart => exact ⟨0, L0, Nat.zero_le _, rfl, by rw [fresh_zero]; exact H3.out, Row.nil _ _, B9.out, by rw [S3.out]; exact Nat.le_refl _⟩
  case round =>
    obtain ⟨j, L, hj, rfl, hh, hr, hb, hk⟩ := hrel
    obtain ⟨a', cap', rfl, hc1, hc2⟩ := hr.slice
    rw [news_len] at hc1
    have HR := Lib.hid hr; have HB := Lib.hid hb; have HK := Lib.hid hk
    rw [news_len] at HR ⊢
    by_cases hjn : j < n
    · have t2 : decide ((j : Int) < (n : Int)) = true := decide_eq_true (by omega)
      have hal := has_alloc hh
      rw [fresh_alloc hjn] at hal
      have hx0 := blk_u64 s256 n60 hjn
      obtain ⟨x, hx⟩ : ∃ x, 1024 + j * s = x := ⟨_, rfl⟩
      simp only [] at hal
      rw [hx] at hal hx0
      have hix := index_hit MAY.out (a := x) (i := j) (by omega) hx.symm
      have AL := Lib.hid hal; have HX := Lib.hid hx; have HH := Lib.hid hh; have IX := Lib.hid hix
      clear hal hx hh hr hb hk hix
      go_wp2_with fail
      refine AL.out.mono ?_; rintro e w4 ⟨L', rfl, hh, _, hu⟩
      have hr4 := HR.out.upd hu (fun b hb => Nat.lt_of_lt_of_le (HH.out.hi b hb) (by rw [NB9.out]; omega))
      have hb4 := HH.out.blk hu HB.out (by rw [NB9.out]; exact Nat.le_refl _)
      have hk4 : k9 + 1 ≤ w4.heap.size := Nat.le_trans HK.out hu.size
      have f0 : w4.cell? ⟨k9, 0, none⟩ = some (.int .u64 1024) := hb4.cell 0
      have f1 : w4.cell? ⟨k9, 1, none⟩ = some (.int .u64 (s : Int)) := hb4.cell 1
      have f2 : w4.cell? ⟨k9, 2, none⟩ = some (.int .i64 (n : Int)) := hb4.cell 2
      have hci := code_index w4 1024 s (n : Int) x (by decide) (show s ≤ 18446744073709551615 by omega) ⟨by omega, by omega⟩ (show x ≤ 18446744073709551615 by omega)
      rw [IX.out.1, IX.out.2] at hci
      have H4 := Lib.hid hh; have R4 := Lib.hid hr4; have K4 := Lib.hid hb4; have Z4 := Lib.hid hk4; have CI := Lib.hid hci
      clear hh hu hr4 hb4 hk4 hci
      go_wp2_with fail
      refine CI.out.mono ?_; rintro e w5 ⟨rfl, hb⟩
      have H5 := Lib.hid (H4.out.grew hb); have R5 := Lib.hid (R4.out.grew hb); have K5 := Lib.hid (K4.out.grew hb)
      have Z5 : Hid (k9 + 1 ≤ w5.heap.size) := Lib.hid (Nat.le_trans Z4.out hb.size)
      have t3 : ((j : Int) != (j : Int)) = false := by simp
      have t4 : (((j + 1 : Nat) : Int) != (j : Int) + 1) = false := by rw [bne_eq_false_iff_eq]; omega
      have wj : IntKind.i64.wrap ((j : Int) + 1) = (j : Int) + 1 := IntWalk.i64_in _ ⟨by omega, by omega⟩
      clear hb f0 f1 f2
      go_wp2_with fail
      refine (has_used H5.out).mono ?_; rintro e w6 ⟨rfl, hh, hb⟩
      rw [show (fresh 1024 s n (j + 1)).used = j + 1 from rfl]
      have H6 := Lib.hid hh; have R6 := Lib.hid (R5.out.grew hb); have K6 := Lib.hid (K5.out.grew hb)
      have Z6 : Hid (k9 + 1 ≤ w6.heap.size) := Lib.hid (Nat.le_trans Z5.out hb.size)
      clear hh hb
      go_wp2_with (at_builtin; refine wpList_append_vec (E := Elem.u64s) rfl (.tmp 71) (.tmp 73) 38 rfl 22 i0 (.int .u64 0) 8 Try.underlying38 hi hz0 hz1 hz2 rfl (.slice a' j cap') (.slice (some ⟨w6.heap.size, 0, none⟩) 1 1) (news 1024 s 0 j) [x] rfl rfl (R6.out.alloc _).vec (u64_oneAt w6 22 x _ rfl) ?_ ?_ ?_; (rw [news_len]; simp only [maxLen, List.length_cons, List.length_nil]; omega); (rw [news_len]; simp only [List.length_cons, List.length_nil]; omega); intro v2 w7 hv2 hu2 hin2; have V2 := Lib.hid hv2; have U2 := Lib.hid hu2; have N2 := Lib.hid hin2; clear hv2 hu2 hin2)
      refine ⟨⟨j + 1, L', by omega, by go_num, (H6.out.alloc _).upd U2.out H6.out.low (fun b hb => by have := R6.out.far b hb; rw [NB9.out]; omega), ?_, ?_, ?_⟩, by simp [intOf]; omega⟩
      · rw [news0, HX.out]
        exact (R6.out.alloc _).app (by rw [World.size_alloc]; have := Z6.out; omega) V2.out N2.out
      · exact (K6.out.alloc _).upd U2.out (fun hb => by have := R6.out.far _ hb; omega)
      · have h1 := U2.out.size
        rw [World.size_alloc] at h1
        have := Z6.out
        omega
    · obtain rfl : n = j := by omega
      have t2 : decide ((n : Int) < (n : Int)) = false := decide_eq_false (by omega)
      have hal := has_alloc hh
      rw [(fresh_full 1024 s n).1] at hal
      have HH := Lib.hid hh; have AL := Lib.hid hal
      clear hh hr hb hk hal
      go_wp2_with fail
      refine AL.out.mono ?_; rintro e w4 ⟨L', rfl, hh, _, hu⟩
      have hr4 := HR.out.upd hu (fun b hb => Nat.lt_of_lt_of_le (HH.out.hi b hb) (by rw [NB9.out]; omega))
      have hb4 := HH.out.blk hu HB.out (by rw [NB9.out]; exact Nat.le_refl _)
      have hk4 : k9 + 1 ≤ w4.heap.size := Nat.le_trans HK.out hu.size
      have H4 := Lib.hid hh; have R4 := Lib.hid hr4; have K4 := Lib.hid hb4; have Z4 := Lib.hid hk4
      have f2 : w4.cell? ⟨k9, 2, none⟩ = some (.int .i64 (n : Int)) := hb4.cell 2
      have hlt9 := hb4.lt
      clear hh hu hr4 hb4 hk4
      go_wp2_with fail
      have tn : ((n : Int) != (n : Int)) = false := by simp
      have hmd : (fresh 1024 s n n).made = n := (fresh_full 1024 s n).2.1
      have HMD := Lib.hid (fun (w' : World) (h : Has C pp p g O nb c L' (fresh 1024 s n n) w') => has_made h)
      rw [hmd] at HMD
      clear hmd
      go_region_held3 (fun w' => w'.cell? ⟨k9, 2, none⟩ = some (.int .i64 (n : Int))) (first | go_keep | exact f2)
        (first
          | (go_at_call 28; (first | (with_reducible refine (HMD.out _ H4.out.drew).mono ?_)); rintro e w5 ⟨rfl, hh, hb⟩; have H5 := Lib.hid hh; have hb' := (Below.refl _ w4).drew.trans hb; have R5 := Lib.hid (R4.out.grew hb'); have K5 := Lib.hid (K4.out.grew hb'); have Z5 : Hid (k9 + 1 ≤ w5.heap.size) := Lib.hid (Nat.le_trans Z4.out hb'.size); have f2 : w5.cell? ⟨k9, 2, none⟩ = some (.int .i64 (n : Int)) := K5.out.cell 2; clear hh hb hb'))
      obtain ⟨q, hq⟩ : ∃ q, T % n = q := ⟨_, rfl⟩
      have hqn : q < n := by rw [← hq]; exact Nat.mod_lt _ (by omega)
      have em1 : Int.tmod (T : Int) (n : Int) = (q : Int) := by rw [← hq]; exact (Int.ofNat_tmod _ _).symm
      have em2 : (T : Int) % (n : Int) = (q : Int) := by rw [← hq]; exact (Int.natCast_emod _ _).symm
      have zne : ¬ (n : Int) = 0 := by omega
      have zne2 : ((n : Int) == 0) = false := by rw [beq_eq_false_iff_ne]; omega
      clear hq tn
      go_wp2_with fail
      obtain ⟨AA, hAA⟩ : ∃ x, news 1024 s 0 n = x := ⟨_, rfl⟩
      have hal : AA.length = n := by rw [← hAA]; exact news_len ..
      have hand : AA.Nodup := by rw [← hAA]; exact news_nodup (by omega)
      have hab : ∀ x ∈ AA, IsBlk 1024 s n x := fun x hx => by rw [← hAA] at hx; exact news0_blk hx
      have hax : ∀ x ∈ AA, x ≤ 16384 := fun x hx => by
        obtain ⟨i, hi, e⟩ := hab x hx
        have := blk_u64 s256 n60 hi
        omega
      have hr5 := R5.out
      rw [hAA] at hr5
      obtain ⟨l', hl'⟩ : ∃ x, AA.drop q ++ AA.take q = x := ⟨_, rfl⟩
      have hpm : l'.Perm AA := by rw [← hl']; exact List.perm_append_comm.trans (by rw [List.take_append_drop])
      have hll : l'.length = n := by rw [hpm.length_eq]; exact hal
      obtain ⟨S0, hS0⟩ : ∃ S : PG, (⟨1024, s, n, n, 0, [], [], 0, 0, 0⟩ : PG) = S := ⟨_, rfl⟩
      have hfp : freeP (fresh 1024 s n n) l' = (again S0 l'.reverse 0, 0) := by
        rw [free_all (L := []) l' (fresh 1024 s n n) MAY.out (by show mk n n ≤ n; unfold mk; omega) (fun a ha => by show IsBlk 1024 s (mk n n) a; rw [show mk n n = n by unfold mk; omega]; exact hab a (hpm.mem_iff.1 ha)) (by show l'.length ≤ n; omega)]
        rw [← hS0]
        unfold freed again fresh
        rw [if_pos rfl, hll, show mk n n = n by unfold mk; omega, Nat.sub_self]
        simp [news]
      have hFF : (fresh 1024 s n n).F = [] := (fresh_full 1024 s n).2.2
      obtain ⟨sv1, hs1', hi1, hq1, _⟩ := cut_from (E := Elem.u64s) (P := Try.prog) 38 Try.underlying38 sizeU a' n cap' q (by omega) hc1
      obtain ⟨sv2, hs2', hi2, hq2⟩ := cut_to (E := Elem.u64s) (P := Try.prog) 38 Try.underlying38 sizeU a' n cap' q (by omega)
      have len1 : (AA.drop q).length ≤ 200 := by rw [List.length_drop, hal]; omega
      have len2 : (AA.take q).length ≤ 200 := by rw [List.length_take, hal]; omega
      have R5' := Lib.hid hr5
      have SQ : Hid (∀ w', Below w5.heap.size w5 w' → Seq Elem.u64s w' sv1 (AA.drop q) ∧ Seq Elem.u64s w' sv2 (AA.take q)) :=
        Lib.hid fun w' hb => by
          have q := (R5'.out.grew hb).vec.seq
          exact ⟨hq1 _ _ q, hq2 _ _ q (by omega)⟩
      have HAL := Lib.hid hal; have HAND := Lib.hid hand; have HAB := Lib.hid hab; have HAX := Lib.hid hax; have HPM := Lib.hid hpm; have HLL := Lib.hid hll; have HFP := Lib.hid hfp; have HFF := Lib.hid hFF; have HL' := Lib.hid hl'; have HS0 := Lib.hid hS0
      have FRC : Hid (∀ x2, Below w5.heap.size w5 x2 → ∀ a2 cap2, Vec Elem.u64s x2 (.slice a2 n cap2) l' → (∀ k, In (.slice a2 n cap2) k → w5.heap.size ≤ k) → n ≤ cap2 → cap2 ≤ 9223372036854775807 →
          Calls Try.prog 19 #[.pointer (some ⟨pp, 0, none⟩), .slice a2 n cap2] x2 fun e x3 => e = .returned (.int .i64 0) ∧ Hid (∃ L, Has C pp p g O nb c L (again S0 l'.reverse 0) x3) ∧ Hid (Row (.slice a' n cap') AA (k9 + 1) x3) ∧ Hid (Blk x3 k9 34 #[.int .u64 1024, .int .u64 (s : Int), .int .i64 (n : Int)]) ∧ Hid (k9 + 1 ≤ x3.heap.size)) := Lib.hid (fun x2 hb a2 cap2 hv hin hd1 hd2 => by
        have hc := has_free (H5.out.grew hb) hv.seq (fun b hb => H5.out.out (by have h1 := hin b hb; have h2 := Z5.out; rw [NB9.out]; omega)) hd1 hd2 (by omega) (fun x hx => by have := hax x (hpm.mem_iff.1 hx); show x ≤ _; omega) (hpm.nodup_iff.2 hand) (fun x _ => ⟨(by rw [hFF]; intro h; cases h), (fun h => (by cases h))⟩)
        rw [hfp] at hc
        refine hc.mono ?_
        rintro e x3 ⟨L6, rfl, hh, _, hu⟩
        exact ⟨rfl, Lib.hid ⟨L6, hh⟩, Lib.hid ((R5'.out.grew hb).upd hu (fun b hb => Nat.lt_of_lt_of_le (H5.out.hi b hb) (by rw [NB9.out]; omega))), Lib.hid ((H5.out.grew hb).blk hu (K5.out.grew hb) (by rw [NB9.out]; exact Nat.le_refl _)), Lib.hid (by have h1 := Z5.out; have h2 := hb.size; have h3 := hu.size; omega)⟩)
      have USD : Hid (∀ x3, (∃ L, Has C pp p g O nb c L (again S0 l'.reverse 0) x3) → Row (.slice a' n cap') AA (k9 + 1) x3 → Blk x3 k9 34 #[.int .u64 1024, .int .u64 (s : Int), .int .i64 (n : Int)] → k9 + 1 ≤ x3.heap.size →
          Calls Try.prog 27 #[.pointer (some ⟨pp, 0, none⟩)] x3 fun e x4 => e = .returned (.int .i64 0) ∧ Hid (∃ L, Has C pp p g O nb c L (again S0 l'.reverse 0) x4) ∧ Hid (Row (.slice a' n cap') AA (k9 + 1) x4) ∧ Hid (Blk x4 k9 34 #[.int .u64 1024, .int .u64 (s : Int), .int .i64 (n : Int)]) ∧ Hid (k9 + 1 ≤ x4.heap.size)) := Lib.hid (fun x3 hh hr hk hz => by
        obtain ⟨L6, hh⟩ := hh
        have hc := has_used hh
        rw [show (again S0 l'.reverse 0).used = 0 by rw [← hS0]; rfl] at hc
        refine hc.mono ?_
        rintro e x4 ⟨rfl, h4, hb⟩
        exact ⟨rfl, Lib.hid ⟨L6, h4⟩, Lib.hid (hr.grew hb), Lib.hid (hk.grew hb), Lib.hid (Nat.le_trans hz hb.size)⟩)
      clear hi1 hq1 hi2 hq2 hal hand hab hax hpm hll hfp hFF hr5 hl' hAA hS0 em1 em2 zne zne2 f2
      go_region_held3 (fun _ => True) (exact trivial)
        (first
          | (refine step_append_vec (E := Elem.u64s) rfl (.tmp 96) (.tmp 99) 38 rfl 22 i0 (.int .u64 0) 8 Try.underlying38 hi hz0 hz1 hz2 rfl (.slice (some ⟨w5.heap.size, 0, none⟩) 0 0) sv1 [] (AA.drop q) ?_ ?_ ?_ ?_ ?_ ?_ ?_
             · go_simp
             · go_simp
             · first | exact Vec.newAt w5 _ _ rfl | exact (Vec.newAt w5 _ _ rfl).drew | exact Vec.newAt w5.drew _ _ rfl
             · first | exact (SQ.out _ ((Below.refl _ w5).alloc (Nat.le_refl _) _)).1 | exact (SQ.out _ ((Below.refl _ w5).alloc (Nat.le_refl _) _).drew).1 | exact (SQ.out _ ((Below.refl _ w5).drew.alloc (Nat.le_refl _) _)).1
             · simp only [maxLen, List.length_nil]; omega
             · simp only [List.length_nil]; omega
             intro v1 x1 hv1' hu1' hin1'
             have B1' : Hid (Below w5.heap.size w5 x1) := Lib.hid (by
               refine Below.trans ?_ (hu1'.below (B := w5.heap.size) (fun k hk => by have := in_at hk; omega) ?_)
               · first | exact (Below.refl _ w5).alloc (Nat.le_refl _) _ | exact ((Below.refl _ w5).alloc (Nat.le_refl _) _).drew | exact (Below.refl _ w5).drew.alloc (Nat.le_refl _) _
               · first | exact ((Below.refl _ w5).alloc (Nat.le_refl _) _).size | exact ((Below.refl _ w5).drew.alloc (Nat.le_refl _) _).size)
             have N1' : Hid (∀ k, In v1 k → w5.heap.size ≤ k) := Lib.hid (fun k hk => by rcases hin1' k hk with x | x; (have := in_at x; omega); (simp at x; omega))
             have V1' := Lib.hid hv1'
             clear hv1' hu1' hin1')
          | (refine step_append_vec (E := Elem.u64s) rfl (.tmp 100) (.tmp 103) 38 rfl 22 i0 (.int .u64 0) 8 Try.underlying38 hi hz0 hz1 hz2 rfl v1 sv2 ([] ++ AA.drop q) (AA.take q) ?_ ?_ V1'.out (SQ.out _ B1'.out).2 ?_ ?_ ?_
             · go_simp
             · go_simp
             · simp only [maxLen, List.nil_append]; omega
             · simp only [List.nil_append]; omega
             intro v2 x2 hv2' hu2' hin2'
             have B2' := Lib.hid (below_in B1'.out B1'.out.size N1'.out hu2')
             rw [List.nil_append, HL'.out] at hv2'
             obtain ⟨a2, cap2, rfl, hd1, hd2⟩ := hv2'.slice'
             rw [HLL.out] at hv2' hd1 hin2' ⊢
             have V2' := Lib.hid hv2'
             have N2' : Hid (∀ k, In (.slice a2 n cap2) k → w5.heap.size ≤ k) := Lib.hid (fun k hk => by rcases hin2' k hk with x | x; exact N1'.out k x; exact Nat.le_trans B1'.out.size x)
             clear hv2' hu2' hin2')
          | (go_at_call 27; (with_reducible refine (USD.out _ H6.out R6.out K6.out Z6.out).mono ?_); rintro e x4 ⟨rfl, H7, R7, K7, Z7⟩)
          | (go_at_call 19; (with_reducible refine (FRC.out _ B2'.out _ _ V2'.out N2'.out hd1 hd2).mono ?_); rintro e x3 ⟨rfl, H6, R6, K6, Z6⟩))
      obtain ⟨L7, H7⟩ := H7.out
      have H7 := Lib.hid H7
      have hmm := @run_makeMap Try.prog
      obtain ⟨b20, hb20⟩ : ∃ b, x4.heap.size = b := ⟨_, rfl⟩
      have f2 : (x4.alloc (Obj.map #[] 0)).cell? ⟨k9, 2, none⟩ = some (.int .i64 (n : Int)) := (K7.out.alloc _).cell 2
      have HB20 := Lib.hid hb20
      have hzb : k9 + 1 ≤ b20 := by have := Z7.out; omega
      obtain ⟨R, hR⟩ : ∃ R, l'.reverse = R := ⟨_, rfl⟩
      have hrl : R.length = n := by rw [← hR, List.length_reverse, HLL.out]
      have hrn : R.Nodup := by rw [← hR]; exact (List.reverse_perm l').nodup_iff.2 (HPM.out.nodup_iff.2 HAND.out)
      have hrm : ∀ x ∈ R, x ∈ AA := fun x hx => by rw [← hR] at hx; exact HPM.out.mem_iff.1 (List.mem_reverse.1 hx)
      rw [hR] at H7
      have RL := Lib.hid hrl; have RN := Lib.hid hrn; have RM := Lib.hid hrm
      clear hrl hrn hrm hR hs1' hs2'
      have NV7 : Hid (∀ b, In (.slice a' n cap') b → b ≠ b20) := Lib.hid (fun b hb => by have := R7.out.vec.lt hb; omega)
      go_wp2_with fail
      clear hmm hb20 f2
      go_loopw [115] (fun i wr => Again w C pp p g O nb c S0 AA R n (k9 + 1) k9 b20 #[.int .u64 1024, .int .u64 (s : Int), .int .i64 (n : Int)] (.slice a' n cap') i wr) (fun i _ => n - (intOf i).toNat)
      case atStart =>
        refine ⟨0, .map [], L7, Nat.zero_le _, rfl, H7.out.alloc _, R7.out.alloc _, K7.out.alloc _, ?_, metU_nil⟩
        rw [← HB20.out]; exact World.ownsMap_made _ _ _ _
      case round =>
        obtain ⟨j, D, L8, hj, rfl, hh, hr, hb, hmap, hmet⟩ := hrel
        have R8 := Lib.hid hr; have B8 := Lib.hid hb; have MAP := Lib.hid hmap; have MET := Lib.hid hmet; have HH8 := Lib.hid hh
        clear hr hb hmap hmet
        by_cases hjn : j < n
        · obtain ⟨x, hx⟩ : ∃ x, R[j]? = some x := ⟨R[j]'(by rw [RL.out]; exact hjn), List.getElem?_eq_getElem _⟩
          have hal := has_alloc hh
          rw [again_alloc hx] at hal
          have hxA := RM.out x (List.mem_of_getElem? hx)
          have hx1 := HAX.out x hxA
          have hnt : (R.take j).contains x = false := by
            rw [Bool.eq_false_iff]
            intro h
            have h1 := List.contains_iff_mem.1 h
            obtain ⟨hl, e⟩ := List.getElem?_eq_some_iff.1 hx
            have h2 : R = R.take j ++ x :: R.drop (j + 1) := by rw [← e, List.getElem_cons_drop, List.take_append_drop]
            have h3 := RN.out
            rw [h2] at h3
            exact (List.nodup_append.1 h3).2.2 x h1 x (List.mem_cons_self ..) rfl
          have t3 : decide ((j : Int) < (n : Int)) = true := decide_eq_true (by omega)
          have hkey : keyOf Try.prog 22 (.int .u64 (x : Int)) = some (.int .u64 (x : Int)) := keyOf_int_mk (P := Try.prog) Try.underlying22 (by simp [Lit.wf, IntKind.min, IntKind.max, IntKind.signed, IntKind.bits]; omega)
          have AL := Lib.hid hal; have HX := Lib.hid hx; have HXA := Lib.hid hxA; have NT := Lib.hid hnt; have HKEY := Lib.hid hkey
          clear hal hx hxA hnt hkey hh
          go_wp2_with fail
          refine AL.out.mono ?_; rintro e w9 ⟨L9, rfl, hh, _, hu⟩
          have hm9 := ownsMap_upd MAP.out hu (HH8.out.out (by rw [NB9.out]; omega))
          have hl : (Instr.lookup 59 (.map (some b20)) (.int .u64 (x : Int)) false).run Try.prog w9 = .ok (.bool false) w9 := lookup_bool hm9 keyU Try.underlying59 Try.underlying4 (zeroBool _) HKEY.out (by rw [MET.out x, NT.out])
          have M9 := Lib.hid hm9; have H9 := Lib.hid hh; have R9 := Lib.hid (R8.out.upd hu (fun b hb => Nat.lt_of_lt_of_le (HH8.out.hi b hb) (by rw [NB9.out]; omega))); have B9' := Lib.hid (HH8.out.blk hu B8.out (by rw [NB9.out]; exact Nat.le_refl _))
          clear hm9 hh hu
          go_wp2_with fail
          have hin := in_any w9 R9.out.vec.seq (by omega) x (by omega)
          rw [decide_eq_true HXA.out] at hin
          have INN := Lib.hid hin
          clear hin hl
          refine INN.out.mono ?_; rintro e w10 ⟨rfl, rfl⟩
          go_wp2_with (at_mapUpdate; refine wpList_mapUpdate_own _ rfl _ _ _ 59 rfl 22 4 keyU Try.underlying59 _ b20 j D rfl M9.out (by unfold maxLen; omega) _ _ _ rfl rfl HKEY.out _ [] (plainElem_bool Try.underlying4 true) ?_; intro w11 hown1 hgrow1; have M11 := Lib.hid hown1; have U11 := Lib.hid (upd_grownBy hgrow1); clear hown1 hgrow1)
          have hj1 : (j : Int) + 1 = ((j + 1 : Nat) : Int) := by omega
          refine ⟨⟨j + 1, D.put (.int .u64 (x : Int)) (.lit (.bool true)), L9, by omega, by go_num, H9.out.upd U11.out H9.out.low (fun b (hb : b = b20) => by rw [hb, NB9.out]; omega), R9.out.upd' U11.out (fun b hb (h : b = b20) => ?_), B9'.out.upd U11.out (fun (h : k9 = b20) => by omega), ?_, ?_⟩, by simp [intOf]; omega⟩
          · exact NV7.out b hb h
          · exact M11.out
          · rw [List.take_add_one, HX.out]
            exact MET.out.put MAP.out.isMap x
        · have hjn' : j = n := by omega
          have t3 : decide ((j : Int) < (n : Int)) = false := decide_eq_false (by omega)
          have hal := has_alloc hh
          rw [hjn', ← RL.out, again_full (by rw [← HS0.out])] at hal
          have AL := Lib.hid hal
          clear hal hh hjn'
          go_wp2_with fail
          refine AL.out.mono ?_; rintro e w9 ⟨L9, rfl, hh, _, _⟩
          have H9 := Lib.hid hh
          clear hh
          go_wp2
          go_ret
          exact ⟨rfl, H9.out.below⟩
end Go.Proofs.Ytlnlipjnljbegaa.pageFills
