/- The law PageOrders, walked. -/
import Derived.Test.YtlnlipjnljbegaaFillUp9
namespace Go.Proofs.Ytlnlipjnljbegaa.pageOrders
open Go.RowKit ListMath PageMath GeoMath
set_option linter.unusedVariables false

/-- So many of the numbers are done: U are used, D were freed. -/
def Freeing (w : World) (C : PgC w) (pp p g : Nat) (O : Nat → Prop) (nb : Nat) (c : Addr) (s n k m : Nat) (v u i : Value) (wr : World) : Prop :=
  ∃ (j : Nat) (U D L : List Nat), j ≤ m ∧ i = .int .i64 (j : Int) ∧ Has C pp p g O nb c L (full s n U D) wr ∧ (Row v U k wr ∧ Row u D k wr ∧ ∀ b, In v b → ¬ In u b) ∧ ((U ++ D).Nodup ∧ (∀ x ∈ U, IsBlk 1024 s n x) ∧ U.length + D.length = n) ∧ k ≤ wr.heap.size
/-- Those that were freed come again, the last one first. -/
def Coming (w : World) (C : PgC w) (pp p g : Nat) (O : Nat → Prop) (nb : Nat) (c : Addr) (S : PG) (D : List Nat) (d k : Nat) (u i : Value) (wr : World) : Prop :=
  ∃ (I : Int) (L : List Nat), -1 ≤ I ∧ I < (d : Int) ∧ i = .int .i64 I ∧ Has C pp p g O nb c L (again S D.reverse ((d : Int) - 1 - I).toNat) wr ∧ Row u D k wr
set_option maxRecDepth 100000 in
set_option maxHeartbeats 4000000 in
theorem walk_of (w : World) (C : PgC w) (sz : Int) (hsw : (Lit.int .u8 sz).wf = true) (nn : Int) (hnw : (Lit.int .u8 nn).wf = true) {a : Option Addr} {m cap : Nat} (l : List Int) (h : NumsAt w .u8 (.slice a m cap) l) :
    Calls Try.prog 9 #[.int .u8 sz, .int .u8 nn, .slice a m cap] w fun e w' => e = .returned (.bool true) ∧ Below w.heap.size w w' := by
  obtain ⟨e1, hs1⟩ := u8_of hsw
  obtain ⟨e2, hs2⟩ := u8_of hnw
  obtain ⟨A, hA⟩ : ∃ A, sz.toNat = A := ⟨_, rfl⟩
  obtain ⟨B, hB⟩ : ∃ B, nn.toNat = B := ⟨_, rfl⟩
  rw [hA] at e1 hs1; rw [hB] at e2 hs2
  subst e1 e2
  obtain ⟨I, hBI⟩ := h.bytesIn
  have HBI := Lib.hid hBI
  have hm0 : m ≤ 9223372036854775807 := by obtain ⟨_, _, e, h1, h2, _⟩ := h; injection e; omega
  clear h hsw hnw hA hB hBI
  by_cases hm : 100 < m
  · have t1 : decide ((100 : Int) < (m : Int)) = true := decide_eq_true (by omega)
    go_enter Try.func9, Try.ntmps9
    go_wp2_with fail
    refine (alive_any _ C).mono ?_; rintro e w1 ⟨rfl, hb⟩
    have B1 := Lib.hid hb
    clear hb
    go_wp2_with fail
    refine (made_any w C A B hs1 hs2 _ B1.out).mono ?_; rintro e w2 ⟨pp, p, g, O, nb, c, L0, rfl, hh, hl0, hnb⟩
    have H2 := Lib.hid hh
    clear hh hl0 hnb
    unfold runV
    go_wp2
    go_ret
    exact ⟨rfl, (H2.out.alloc _).below⟩
  · have t1 : decide ((100 : Int) < (m : Int)) = false := decide_eq_false (by omega)
    obtain ⟨i0, hi, hz0, hz1, hz2⟩ := info_parts infoU64
    go_enter Try.func9, Try.ntmps9
    go_wp2_with fail
    refine (alive_any _ C).mono ?_; rintro e w1 ⟨rfl, hb⟩
    have B1 := Lib.hid hb
    clear hb
    go_wp2_with fail
    refine (made_any w C A B hs1 hs2 _ B1.out).mono ?_; rintro e w2 ⟨pp, p, g, O, nb, c, L0, rfl, hh, hl0, hnb⟩
    have hsb := size_bd A
    have hnb2 := count_bd B
    obtain ⟨s, hs⟩ : ∃ s, sizeN A = s := ⟨_, rfl⟩
    obtain ⟨n, hn⟩ : ∃ n, countN B = n := ⟨_, rfl⟩
    rw [hs] at hh hsb
    rw [hn] at hh hnb2
    rw [hs, hn]
    obtain ⟨s16, s256⟩ := hsb
    obtain ⟨n1, n60⟩ := hnb2
    have H2 := Lib.hid hh; have LN := Lib.hid hl0; have HNB := Lib.hid hnb
    clear hh hl0 hnb hs hn
    unfold runV
    have b9 := Blk.new w2 34 #[.int .u64 1024, .int .u64 (s : Int), .int .i64 (n : Int)]
    have h3 := H2.out.alloc (.cells #[.int .u64 1024, .int .u64 (s : Int), .int .i64 (n : Int)] 34)
    obtain ⟨w3, hw3⟩ : ∃ x, w2.alloc (.cells #[.int .u64 1024, .int .u64 (s : Int), .int .i64 (n : Int)] 34) = x := ⟨_, rfl⟩
    have s3 : w3.heap.size = w2.heap.size + 1 := by rw [← hw3]; simp
    rw [hw3] at b9 h3
    obtain ⟨k9, hk9⟩ : ∃ k, w2.heap.size = k := ⟨_, rfl⟩
    rw [hk9] at b9
    have f2 : w3.cell? ⟨k9, 2, none⟩ = some (.int .i64 (n : Int)) := b9.cell 2
    have H3 := Lib.hid h3; have B9 := Lib.hid b9
    have hs3 : w3.heap.size = k9 + 1 := by omega
    have hnb9 : nb = k9 := by rw [HNB.out, hk9]
    have S3 := Lib.hid hs3; have NB9 := Lib.hid hnb9
    clear h3 b9 s3 hs3 hnb9
    go_wp2_with fail
    clear hw3 hk9 f2
    go_loopw [11, 43] (fun v i wr => CameTo w C pp p g O nb c s n (k9 + 1) k9 34 #[.int .u64 1024, .int .u64 (s : Int), .int .i64 (n : Int)] v i wr) (fun _ i _ => n - (intOf i).toNat)
    case atStart => exact ⟨0, L0, Nat.zero_le _, rfl, by rw [fresh_zero]; exact H3.out, Row.nil _ _, B9.out, by rw [S3.out]; exact Nat.le_refl _⟩
    case round =>
      obtain ⟨j, L, hj, rfl, hh, hr, hb, hk⟩ := hrel
      obtain ⟨a', cap', rfl, hc1, hc2⟩ := hr.slice
      rw [news_len] at hc1
      have HR := Lib.hid hr; have HB := Lib.hid hb; have HK := Lib.hid hk
      rw [news_len] at HR ⊢
      by_cases hjn : j < n
      · have t2 : decide ((j : Int) < (n : Int)) = true := decide_eq_true (by omega)
        have hal := has_alloc hh
        rw [fresh_alloc hjn] at hal
        have hx0 := blk_u64 s256 n60 hjn
        obtain ⟨x, hx⟩ : ∃ x, 1024 + j * s = x := ⟨_, rfl⟩
        simp only [] at hal
        rw [hx] at hal hx0
        have AL := Lib.hid hal; have HX := Lib.hid hx; have HH := Lib.hid hh
        clear hal hx hh hr hb hk
        go_wp2_with fail
        refine AL.out.mono ?_; rintro e w4 ⟨L', rfl, hh, _, hu⟩
        have hr4 := HR.out.upd hu (fun b hb => Nat.lt_of_lt_of_le (HH.out.hi b hb) (by rw [NB9.out]; omega))
        have hb4 := HH.out.blk hu HB.out (by rw [NB9.out]; exact Nat.le_refl _)
        have hk4 : k9 + 1 ≤ w4.heap.size := Nat.le_trans HK.out hu.size
        have H4 := Lib.hid hh; have R4 := Lib.hid hr4; have K4 := Lib.hid hb4; have Z4 := Lib.hid hk4
        clear hh hu hr4 hb4 hk4
        go_wp2_with (at_builtin; refine wpList_append_vec (E := Elem.u64s) rfl (.tmp 52) (.tmp 54) 38 rfl 22 i0 (.int .u64 0) 8 Try.underlying38 hi hz0 hz1 hz2 rfl (.slice a' j cap') (.slice (some ⟨w4.heap.size, 0, none⟩) 1 1) (news 1024 s 0 j) [x] rfl rfl (R4.out.alloc _).vec (u64_oneAt w4 22 x _ rfl) ?_ ?_ ?_; (rw [news_len]; simp only [maxLen, List.length_cons, List.length_nil]; omega); (rw [news_len]; simp only [List.length_cons, List.length_nil]; omega); intro v2 w5 hv2 hu2 hin2; have V2 := Lib.hid hv2; have U2 := Lib.hid hu2; have N2 := Lib.hid hin2; clear hv2 hu2 hin2)
        refine ⟨⟨j + 1, L', by omega, by go_num, (H4.out.alloc _).upd U2.out H4.out.low (fun b hb => by have := R4.out.far b hb; rw [NB9.out]; omega), ?_, ?_, ?_⟩, by simp [intOf]; omega⟩
        · rw [news0, HX.out]
          exact (R4.out.alloc _).app (by rw [World.size_alloc]; have := Z4.out; omega) V2.out N2.out
        · exact (K4.out.alloc _).upd U2.out (fun hb => by have := R4.out.far _ hb; omega)
        · have h1 := U2.out.size
          rw [World.size_alloc] at h1
          have := Z4.out
          omega
      · obtain rfl : n = j := by omega
        have t2 : decide ((n : Int) < (n : Int)) = false := decide_eq_false (by omega)
        have hu0 : Has C pp p g O nb c L (full s n (news 1024 s 0 n) []) wr := by rw [← fresh_end]; exact hh
        have I2 : Hid (Freeing w C pp p g O nb c s n (k9 + 1) m (.slice a' n cap') (.slice none 0 0) (.int .i64 0) wr) := Lib.hid ⟨0, news 1024 s 0 n, [], L, Nat.zero_le _, rfl, hu0, ⟨HR.out, Row.nil _ _, fun b _ h => by cases h⟩, ⟨by rw [List.append_nil]; exact news_nodup (by omega), fun x hx => news0_blk hx, by rw [news_len]; rfl⟩, HK.out⟩
        clear hh hr hb hk hu0
        go_wp2_with fail
        go_loopw [11, 14, 59] (fun v u i wr => Freeing w C pp p g O nb c s n (k9 + 1) m v u i wr) (fun _ _ i _ => m - (intOf i).toNat)
        case atStart => exact I2.out
        case round =>
          clear I2
          obtain ⟨j, U, D, L, hj, rfl, hh, ⟨hv, hu, hvu⟩, ⟨hnd, hbk, hln⟩, hk⟩ := hrel
          obtain ⟨av, cv, rfl, hv1, hv2⟩ := hv.slice
          obtain ⟨au, cu, rfl, hu1, hu2⟩ := hu.slice
          obtain ⟨z, hz⟩ : ∃ z, U.length = z := ⟨_, rfl⟩
          obtain ⟨d, hd⟩ : ∃ z, D.length = z := ⟨_, rfl⟩
          rw [hz] at hv hvu hv1 hln
          rw [hd] at hu hvu hu1 hln
          have hz60 : z ≤ 60 := by omega
          have hd60 : d ≤ 60 := by omega
          rw [hz, hd]
          have V := Lib.hid hv; have W := Lib.hid hu; have VW := Lib.hid hvu; have ND := Lib.hid hnd; have BK := Lib.hid hbk; have LNN := Lib.hid hln; have K := Lib.hid hk; have ZZ := Lib.hid hz; have DD := Lib.hid hd; have HH := Lib.hid hh
          clear hv hu hvu hnd hbk hln hk hz hd hh
          by_cases hjm : j < m
          · obtain ⟨b8, o8, rfl, hc8⟩ := HBI.out.cell wr HH.out.below j hjm
            have hle := HBI.out.le j hjm
            obtain ⟨y, hy⟩ : ∃ y, I.getD j 0 = y := ⟨_, rfl⟩
            rw [hy] at hc8 hle
            have t3 : decide ((j : Int) < (m : Int)) = true := decide_eq_true (by omega)
            have j0 : (0 : Int) ≤ (j : Int) := by omega
            have j1 : (j : Int) < (m : Int) := by omega
            clear hy
            by_cases hz0' : z = 0
            · have t4 : ((z : Int) == 0) = true := by rw [beq_iff_eq]; omega
              clear hz0'
              go_wp2_with fail
              clear t4
              have hag : Has C pp p g O nb c L (again (full s n U D) D.reverse 0) wr := HH.out
              have hrl : D.reverse.length = d := by rw [List.length_reverse, DD.out]
              have wr1 : IntKind.i64.wrap ((d : Int) - 1) = (d : Int) - 1 := IntWalk.i64_in _ ⟨by omega, by omega⟩
              have AG := Lib.hid hag; have RL := Lib.hid hrl
              clear hag hrl
              go_loopw [18] (fun i wr => Coming w C pp p g O nb c (full s n U D) D d (k9 + 1) (.slice au d cu) i wr) (fun i _ => (intOf i + 1).toNat)
              case atStart => exact ⟨(d : Int) - 1, L, by omega, by omega, rfl, by rw [show ((d : Int) - 1 - ((d : Int) - 1)).toNat = 0 by omega]; exact AG.out, W.out⟩
              case round =>
                obtain ⟨I9, L9, hI1, hI2, rfl, hh, hr⟩ := hrel
                have R9 := Lib.hid hr
                by_cases hI : I9 < 0
                · obtain rfl : I9 = -1 := by omega
                  rw [show ((d : Int) - 1 - (-1)).toNat = D.reverse.length by rw [RL.out]; omega] at hh
                  have hal := has_alloc hh
                  rw [again_full rfl] at hal
                  have AL := Lib.hid hal
                  have t5 : decide ((0 : Int) ≤ -1) = false := by decide
                  clear hh hal hr wr1
                  go_wp2_with fail
                  refine AL.out.mono ?_; rintro e w9 ⟨L10, rfl, hh, _, _⟩
                  have HF := Lib.hid hh
                  clear hh
                  go_wp2
                  go_ret
                  exact ⟨rfl, HF.out.below⟩
                · obtain ⟨q9, rfl⟩ := Int.eq_ofNat_of_zero_le (show 0 ≤ I9 by omega)
                  have hq9 : q9 < d := by omega
                  obtain ⟨x9, hx9⟩ : ∃ x, D[q9]? = some x := ⟨D[q9]'(by rw [DD.out]; exact hq9), List.getElem?_eq_getElem _⟩
                  have hr9 : D.reverse[((d : Int) - 1 - (q9 : Int)).toNat]? = some x9 := by
                    rw [List.getElem?_reverse (by rw [DD.out]; omega), DD.out, show d - 1 - ((d : Int) - 1 - (q9 : Int)).toNat = q9 by omega]; exact hx9
                  have hal := has_alloc hh
                  rw [again_alloc hr9] at hal
                  have AL := Lib.hid hal
                  have t5 : decide ((0 : Int) ≤ (q9 : Int)) = true := decide_eq_true (by omega)
                  have q0 : (0 : Int) ≤ (q9 : Int) := by omega
                  have q1 : (q9 : Int) < (d : Int) := by omega
                  have HX9 := Lib.hid hx9; have HH9 := Lib.hid hh
                  clear hh hal hr hr9 hx9 wr1
                  go_wp2_with fail
                  refine AL.out.mono ?_; rintro e w9 ⟨L10, rfl, hh, _, hu⟩
                  have hr9 := R9.out.upd hu (fun b hb => Nat.lt_of_lt_of_le (HH9.out.hi b hb) (by rw [NB9.out]; omega))
                  obtain ⟨bu, ou, rfl, _⟩ := hr9.vec.seq.elem HX9.out
                  have d9 := hr9.cell HX9.out
                  have HF := Lib.hid hh; have R10 := Lib.hid hr9
                  have t6 : ((x9 : Int) != (x9 : Int)) = false := by simp
                  clear hh hu hr9
                  go_wp2_with fail
                  refine ⟨⟨(q9 : Int) - 1, L10, by omega, by omega, rfl, ?_, R10.out⟩, by simp [intOf] <;> omega⟩
                  rw [show ((d : Int) - 1 - ((q9 : Int) - 1)).toNat = ((d : Int) - 1 - (q9 : Int)).toNat + 1 by omega]
                  exact HF.out
            · have t4 : ((z : Int) == 0) = false := by rw [beq_eq_false_iff_ne]; omega
              obtain ⟨q, hq⟩ : ∃ q, y % z = q := ⟨_, rfl⟩
              have hqz : q < z := by rw [← hq]; exact Nat.mod_lt _ (by omega)
              have em1 : Int.tmod (y : Int) (z : Int) = (q : Int) := by rw [← hq]; exact (Int.ofNat_tmod _ _).symm
              have em2 : (y : Int) % (z : Int) = (q : Int) := by rw [← hq]; exact (Int.natCast_emod _ _).symm
              have zne : ¬ (z : Int) = 0 := by omega
              obtain ⟨x, hx⟩ : ∃ x, U[q]? = some x := ⟨U[q]'(by rw [ZZ.out]; exact hqz), List.getElem?_eq_getElem _⟩
              have hxb := BK.out x (List.mem_of_getElem? hx)
              have hx1 : x ≤ 1048576 := by
                have h1 := hxb.fits (Nat.le_refl _) (C.good HH.out.pg).fit
                have h2 := (C.good HH.out.pg).big
                omega
              have hmay := (C.good HH.out.pg).may
              have hfr := has_free (HH.out.alloc (.cells #[.int .u64 (x : Int)] 22)) (u64_oneAt wr 22 x _ rfl) (fun b hb => HH.out.out (by have h1 := in_blk hb; have h2 := K.out; have h3 := NB9.out; omega)) (by decide) (by decide) (by decide) (by intro a ha; rw [List.mem_singleton.1 ha]; show x ≤ _; omega) (by simp) (by
                intro a ha
                rw [List.mem_singleton.1 ha]
                refine ⟨fun h => (by cases h), fun h => ?_⟩
                exact (List.nodup_append.1 ND.out).2.2 x (List.mem_of_getElem? hx) x (List.mem_reverse.1 h) rfl)
              rw [full_free (s := s) (n := n) (U := U) (D := D) (k := q) (x := x) hmay hx hxb] at hfr
              simp only [] at hfr
              obtain ⟨bv, ov, rfl, _⟩ := V.out.vec.seq.elem hx
              have d0 := V.out.cell hx
              have q0 : (0 : Int) ≤ (q : Int) := by omega
              have q1 : (q : Int) < (z : Int) := by omega
              have FR := Lib.hid hfr; have HX := Lib.hid hx
              clear hq hfr hx hmay hxb
              go_wp2_with fail
              refine FR.out.mono ?_; rintro e w5 ⟨L5, rfl, hh, _, hu⟩
              have hV5 := (V.out.alloc (.cells #[.int .u64 (x : Int)] 22)).upd hu (fun b hb => Nat.lt_of_lt_of_le (HH.out.hi b hb) (by rw [NB9.out]; omega))
              have hW5 := (W.out.alloc (.cells #[.int .u64 (x : Int)] 22)).upd hu (fun b hb => Nat.lt_of_lt_of_le (HH.out.hi b hb) (by rw [NB9.out]; omega))
              have hk5 : k9 + 1 ≤ w5.heap.size := by have h1 := hu.size; rw [World.size_alloc] at h1; have := K.out; omega
              have d1 := hV5.cell HX.out
              have H5 := Lib.hid hh; have V5 := Lib.hid hV5; have W5 := Lib.hid hW5; have K5 := Lib.hid hk5
              clear hh hu hV5 hW5 hk5 d0
              go_wp2_with (at_builtin; refine wpList_append_vec (E := Elem.u64s) rfl (.tmp 79) (.tmp 84) 38 rfl 22 i0 (.int .u64 0) 8 Try.underlying38 hi hz0 hz1 hz2 rfl (.slice au d cu) (.slice (some ⟨w5.heap.size, 0, none⟩) 1 1) D [x] rfl rfl (W5.out.alloc _).vec (u64_oneAt w5 22 x _ rfl) ?_ ?_ ?_; (rw [DD.out]; simp only [maxLen, List.length_cons, List.length_nil]; omega); (rw [DD.out]; simp only [List.length_cons, List.length_nil]; omega); intro v6 w6 hv6 hu6 hin6; have hsz6 : (w5.alloc (.cells #[.int .u64 (x : Int)] 22)).heap.size ≤ w6.heap.size := hu6.size; have V6 : Hid (Row (.slice (some ⟨bv, ov, none⟩) z cv) U (k9 + 1) w6) := Lib.hid ⟨(V5.out.alloc _).vec.upd hu6 (fun b hb hx => VW.out b hb hx), V5.out.far⟩; have W6 := Lib.hid ((W5.out.alloc _).app (by rw [World.size_alloc]; have := K5.out; omega) hv6 hin6); have H6 := Lib.hid ((H5.out.alloc (.cells #[.int .u64 (x : Int)] 22)).upd hu6 H5.out.low (fun b hb => by have := W5.out.far b hb; rw [NB9.out]; omega)); have N6 : Hid (∀ b, In v6 b → b < w6.heap.size) := Lib.hid (fun b hb => hv6.lt hb); have K6 : Hid (k9 + 1 ≤ w6.heap.size) := Lib.hid (by rw [World.size_alloc] at hsz6; have := K5.out; omega); clear hv6 hu6 hin6 hsz6)
              clear d1 em1 em2 zne t3 t4
              obtain ⟨sv1, hs1, hi1, hq1⟩ := cut_to (E := Elem.u64s) (P := Try.prog) 38 Try.underlying38 sizeU (some ⟨bv, ov, none⟩) z cv q (by omega)
              obtain ⟨sv2, hs2, hi2, hq2, _⟩ := cut_from (E := Elem.u64s) (P := Try.prog) 38 Try.underlying38 sizeU (some ⟨bv, ov, none⟩) z cv (q + 1) (by omega) hv1
              rw [show ((q + 1 : Nat) : Int) = (q : Int) + 1 by omega] at hs2
              have hwq : IntKind.i64.wrap ((q : Int) + 1) = (q : Int) + 1 := IntWalk.i64_in _ ⟨by omega, by omega⟩
              have len1 : (U.take q).length ≤ 200 := by rw [List.length_take, ZZ.out]; omega
              have len2 : (U.drop (q + 1)).length ≤ 200 := by rw [List.length_drop, ZZ.out]; omega
              have SQ : Hid (∀ w', Below w6.heap.size w6 w' → Seq Elem.u64s w' sv1 (U.take q) ∧ Seq Elem.u64s w' sv2 (U.drop (q + 1))) :=
                Lib.hid fun w' hb => by
                  have q := (V6.out.grew hb).vec.seq
                  exact ⟨hq1 _ _ q (by omega), hq2 _ _ q⟩
              clear hi1 hq1 hi2 hq2
              go_region_law (first
                | (refine step_append_vec (E := Elem.u64s) rfl (.tmp 86) (.tmp 89) 38 rfl 22 i0 (.int .u64 0) 8 Try.underlying38 hi hz0 hz1 hz2 rfl (.slice (some ⟨w6.heap.size, 0, none⟩) 0 0) sv1 [] (U.take q) ?_ ?_ ?_ ?_ ?_ ?_ ?_
                   · go_simp
                   · go_simp
                   · first | exact Vec.newAt w6 _ _ rfl | exact (Vec.newAt w6 _ _ rfl).drew | exact Vec.newAt w6.drew _ _ rfl
                   · first | exact (SQ.out _ ((Below.refl _ w6).alloc (Nat.le_refl _) _)).1 | exact (SQ.out _ ((Below.refl _ w6).alloc (Nat.le_refl _) _).drew).1 | exact (SQ.out _ ((Below.refl _ w6).drew.alloc (Nat.le_refl _) _)).1
                   · simp only [maxLen, List.length_nil]; omega
                   · simp only [List.length_nil]; omega
                   intro v1 x1 hv1' hu1' hin1'
                   have B1' : Hid (Below w6.heap.size w6 x1) := Lib.hid (by
                     refine Below.trans ?_ (hu1'.below (B := w6.heap.size) (fun k hk => by have := in_at hk; omega) ?_)
                     · first | exact (Below.refl _ w6).alloc (Nat.le_refl _) _ | exact ((Below.refl _ w6).alloc (Nat.le_refl _) _).drew | exact (Below.refl _ w6).drew.alloc (Nat.le_refl _) _
                     · first | exact ((Below.refl _ w6).alloc (Nat.le_refl _) _).size | exact ((Below.refl _ w6).drew.alloc (Nat.le_refl _) _).size)
                   have N1' : Hid (∀ k, In v1 k → w6.heap.size ≤ k) := Lib.hid (fun k hk => by rcases hin1' k hk with x | x; (have := in_at x; omega); (simp at x; omega))
                   have V1' := Lib.hid hv1'
                   clear hv1' hu1' hin1')
                | (refine step_append_vec (E := Elem.u64s) rfl (.tmp 90) (.tmp 94) 38 rfl 22 i0 (.int .u64 0) 8 Try.underlying38 hi hz0 hz1 hz2 rfl v1 sv2 ([] ++ U.take q) (U.drop (q + 1)) ?_ ?_ V1'.out (SQ.out _ B1'.out).2 ?_ ?_ ?_
                   · go_simp
                   · go_simp
                   · simp only [maxLen, List.nil_append]; omega
                   · simp only [List.nil_append]; omega
                   intro v2 x2 hv2' hu2' hin2'
                   have B2' := Lib.hid (below_in B1'.out B1'.out.size N1'.out hu2')
                   have V2' := Lib.hid hv2'
                   have N2' : Hid (∀ k, In v2 k → w6.heap.size ≤ k) := Lib.hid (fun k hk => by rcases hin2' k hk with x | x; exact N1'.out k x; exact Nat.le_trans B1'.out.size x)
                   clear hv2' hu2' hin2'))
              all_goals
                clear hs1 hs2 hwq
                go_wp2
                have hnd2 : ((U.take q ++ U.drop (q + 1)) ++ (D ++ [x])).Nodup := by
                  have e1 : (U ++ D).Perm ((U.take q ++ U.drop (q + 1)) ++ (D ++ [x])) := by
                    refine ((drop_perm HX.out).append_right D).trans ?_
                    rw [← List.append_assoc]
                    exact (List.perm_append_singleton x _).symm
                  exact e1.nodup_iff.1 ND.out
                obtain ⟨l1, l2, l3⟩ := drop_len HX.out
                refine ⟨⟨j + 1, U.take q ++ U.drop (q + 1), D ++ [x], L5, by omega, by go_num, H6.out.grew B2'.out, ⟨⟨by have := V2'.out; rwa [List.nil_append] at this, fun b hb => Nat.le_trans K6.out (N2'.out b hb)⟩, W6.out.grew B2'.out, fun b h1 h2 => by have h3 := N2'.out b h1; have h4 := N6.out b h2; omega⟩, ⟨hnd2, fun a ha => BK.out a ((drop_perm HX.out).mem_iff.2 (List.mem_cons_of_mem _ ha)), ?_⟩, Nat.le_trans K6.out B2'.out.size⟩, by simp [intOf]; omega⟩
                have h1 := LNN.out
                have h2 := ZZ.out
                have h3 := DD.out
                rw [l1, List.length_append, List.length_singleton]
                omega
          · have t3 : decide ((j : Int) < (m : Int)) = false := decide_eq_false (by omega)
            have t4 := t3
            go_wp2_with fail
            clear t4
            have hag : Has C pp p g O nb c L (again (full s n U D) D.reverse 0) wr := HH.out
            have hrl : D.reverse.length = d := by rw [List.length_reverse, DD.out]
            have wr1 : IntKind.i64.wrap ((d : Int) - 1) = (d : Int) - 1 := IntWalk.i64_in _ ⟨by omega, by omega⟩
            have AG := Lib.hid hag; have RL := Lib.hid hrl
            clear hag hrl
            go_loopw [18] (fun i wr => Coming w C pp p g O nb c (full s n U D) D d (k9 + 1) (.slice au d cu) i wr) (fun i _ => (intOf i + 1).toNat)
            case atStart => exact ⟨(d : Int) - 1, L, by omega, by omega, rfl, by rw [show ((d : Int) - 1 - ((d : Int) - 1)).toNat = 0 by omega]; exact AG.out, W.out⟩
            case round =>
              obtain ⟨I9, L9, hI1, hI2, rfl, hh, hr⟩ := hrel
              have R9 := Lib.hid hr
              by_cases hI : I9 < 0
              · obtain rfl : I9 = -1 := by omega
                rw [show ((d : Int) - 1 - (-1)).toNat = D.reverse.length by rw [RL.out]; omega] at hh
                have hal := has_alloc hh
                rw [again_full rfl] at hal
                have AL := Lib.hid hal
                have t5 : decide ((0 : Int) ≤ -1) = false := by decide
                clear hh hal hr wr1
                go_wp2_with fail
                refine AL.out.mono ?_; rintro e w9 ⟨L10, rfl, hh, _, _⟩
                have HF := Lib.hid hh
                clear hh
                go_wp2
                go_ret
                exact ⟨rfl, HF.out.below⟩
              · obtain ⟨q9, rfl⟩ := Int.eq_ofNat_of_zero_le (show 0 ≤ I9 by omega)
                have hq9 : q9 < d := by omega
                obtain ⟨x9, hx9⟩ : ∃ x, D[q9]? = some x := ⟨D[q9]'(by rw [DD.out]; exact hq9), List.getElem?_eq_getElem _⟩
                have hr9 : D.reverse[((d : Int) - 1 - (q9 : Int)).toNat]? = some x9 := by
                  rw [List.getElem?_reverse (by rw [DD.out]; omega), DD.out, show d - 1 - ((d : Int) - 1 - (q9 : Int)).toNat = q9 by omega]; exact hx9
                have hal := has_alloc hh
                rw [again_alloc hr9] at hal
                have AL := Lib.hid hal
                have t5 : decide ((0 : Int) ≤ (q9 : Int)) = true := decide_eq_true (by omega)
                have q0 : (0 : Int) ≤ (q9 : Int) := by omega
                have q1 : (q9 : Int) < (d : Int) := by omega
                have HX9 := Lib.hid hx9; have HH9 := Lib.hid hh
                clear hh hal hr hr9 hx9 wr1
                go_wp2_with fail
                refine AL.out.mono ?_; rintro e w9 ⟨L10, rfl, hh, _, hu⟩
                have hr9 := R9.out.upd hu (fun b hb => Nat.lt_of_lt_of_le (HH9.out.hi b hb) (by rw [NB9.out]; omega))
                obtain ⟨bu, ou, rfl, _⟩ := hr9.vec.seq.elem HX9.out
                have d9 := hr9.cell HX9.out
                have HF := Lib.hid hh; have R10 := Lib.hid hr9
                have t6 : ((x9 : Int) != (x9 : Int)) = false := by simp
                clear hh hu hr9
                go_wp2_with fail
                refine ⟨⟨(q9 : Int) - 1, L10, by omega, by omega, rfl, ?_, R10.out⟩, by simp [intOf] <;> omega⟩
                rw [show ((d : Int) - 1 - ((q9 : Int) - 1)).toNat = ((d : Int) - 1 - (q9 : Int)).toNat + 1 by omega]
                exact HF.out
end Go.Proofs.Ytlnlipjnljbegaa.pageOrders
