/- The law ListJoins, walked. -/
import Derived.Test.YtmnnmgphiiedgaaTwo7
namespace Go.Proofs.Ytmnnmgphiiedgaa.listJoins
open Go.RowKit ListMath
set_option linter.unusedVariables false

theorem in_cut {a : Option Addr} {n m c d b : Nat} (h : In (.slice a n c) b) : In (.slice a m d) b := by cases a <;> exact h
set_option maxRecDepth 100000 in
set_option maxHeartbeats 4000000 in
theorem walk_of (w : World) (C : Li w) {a : Option Addr} {nn cap : Nat} (l : List Int) (h : NumsAt w .u8 (.slice a nn cap) l) (cut : Int) (hcw : (Lit.int .u8 cut).wf = true) :
    Calls Try.prog 5 #[.slice a nn cap, .int .u8 cut] w fun e w' => e = .returned (.bool true) ∧ Below w.heap.size w w' := by
  obtain ⟨i0, hi, hz0, hz1, hz2⟩ := info_parts infoU
  obtain ⟨L, hB⟩ := h.bytesIn
  have HBY := Lib.hid hB
  obtain ⟨ec, hcut⟩ := u8_of hcw
  obtain ⟨ct, hct⟩ : ∃ x, cut.toNat = x := ⟨_, rfl⟩
  rw [hct] at ec hcut
  subst ec
  obtain ⟨hg1, hg2⟩ := blocks_good (l := L) (n := 2048) (by decide)
  have hle := blocksN_le L
  obtain ⟨IN, hIN⟩ : ∃ x, blocksN L = x := ⟨_, rfl⟩
  obtain ⟨n, hn⟩ : ∃ x, IN.length = x := ⟨_, rfl⟩
  rw [hIN] at hg1 hg2 hle
  rw [hn] at hle
  obtain ⟨n1, hn1⟩ : ∃ x, n + 1 = x := ⟨_, rfl⟩
  obtain ⟨k, hk⟩ : ∃ x, ct % n1 = x := ⟨_, rfl⟩
  have hkn : k ≤ n := by have := Nat.mod_lt ct (show 0 < n1 by omega); omega
  obtain ⟨A, hA⟩ : ∃ x, IN.take k = x := ⟨_, rfl⟩
  obtain ⟨B, hB'⟩ : ∃ x, IN.drop k = x := ⟨_, rfl⟩
  obtain ⟨m2, hm2⟩ : ∃ x, n - k = x := ⟨_, rfl⟩
  have hab : IN = A ++ B := by rw [← hA, ← hB', List.take_append_drop]
  have la : A.length = k := by rw [← hA, List.length_take]; omega
  have lb : B.length = m2 := by rw [← hB', List.length_drop]; omega
  have fa : ∀ x ∈ A, x ≠ 0 ∧ x + 8 ≤ 2048 := fun x hx => hg1 x (by rw [hab]; exact List.mem_append_left _ hx)
  have fb : ∀ x ∈ B, x ≠ 0 ∧ x + 8 ≤ 2048 := fun x hx => hg1 x (by rw [hab]; exact List.mem_append_right _ hx)
  rw [hab] at hg2
  obtain ⟨pa, pb, pab⟩ := List.pairwise_append.1 hg2
  have HIN := Lib.hid hIN; have HN := Lib.hid hn
  have HA := Lib.hid hA; have HB := Lib.hid hB'; have LA := Lib.hid la; have LB := Lib.hid lb; have FA := Lib.hid fa; have FB := Lib.hid fb; have PA := Lib.hid pa; have PB := Lib.hid pb; have PAB := Lib.hid pab
  have HM2 := Lib.hid hm2
  obtain ⟨m1, m2'⟩ := mod_of hk
  have e1 : (n : Int) + 1 = (n1 : Int) := by omega
  have hn1' : n1 ≤ 121 := by omega
  have hn10 : 0 < n1 := by omega
  have hm2n : k + m2 = n := by omega
  have z1 : ((n1 : Int) == 0) = false := by rw [beq_eq_false_iff_ne]; omega
  have z2 : ¬ ((n1 : Int) = 0) := by omega
  clear h hB hIN hn hg1 hg2 hA hB' hm2 hab la lb fa fb pa pb pab hk hn1 hct hcw
  go_enter Try.func5, Try.ntmps5
  go_wp2_with fail
  refine (alive_any _ C).mono ?_; rintro e w1 ⟨rfl, hb⟩
  have B1 := Lib.hid hb
  have s1 := B1.out.size
  clear hb
  go_wp2_with fail
  refine (new2048 _).mono ?_; rintro e w2 ⟨p, g, L0, rfl, hm, hL0, hlen, fp, fg, hb⟩
  have B2 := Lib.hid (below_then B1.out s1 hb)
  have M2 := Lib.hid hm
  have s2 := B2.out.size
  have hp : w.heap.size ≤ p := Nat.le_trans s1 fp
  have hg : w.heap.size ≤ g := Nat.le_trans s1 fg
  have HLEN := Lib.hid hlen
  have hgl := hm.row.lt
  clear hb hm hL0 hlen fp fg
  go_wp2_with fail
  refine (blocks_any w2 (HBY.out.below B2.out)).mono ?_; rintro e w3 ⟨v, rfl, hv, hin, hb⟩
  obtain ⟨a', cap', rfl, hc1, hc2⟩ := hv.slice'
  rw [HIN.out, HN.out] at hv hin hc1
  rw [HIN.out, HN.out]
  have V3 := Lib.hid hv; have N3 := Lib.hid hin
  have B3 := Lib.hid (below_then B2.out s2 hb)
  have s3 := B3.out.size
  have M3 := Lib.hid (M2.out.upd (updFalse_of hb) id id)
  have O3 := One.make M3.out hp hg B3.out
  obtain ⟨lp, hlp⟩ : ∃ b, w3.heap.size = b := ⟨_, rfl⟩
  rw [hlp] at O3
  obtain ⟨lq, hlq⟩ : ∃ b, lp + 1 = b := ⟨_, rfl⟩
  have T3 := Lib.hid (O3.two lq (by rw [← hlq, ← hlp]; simp))
  have V3' := (V3.out.alloc (.cells #[.int .u64 0, .int .i64 0] 33)).alloc (.cells #[.int .u64 0, .int .i64 0] 33)
  have V3A := Lib.hid V3'
  have hs1 := fun w => run_cut_to (E := Elem.u64s) (P := Try.prog) 37 Try.underlying37 sizeRunU a' n cap' k (by omega) w
  obtain ⟨a2, hs2, hin2, hq2⟩ := run_cut_from (E := Elem.u64s) (P := Try.prog) w 37 Try.underlying37 sizeRunU a' n cap' k (by omega) hc1
  obtain ⟨c2, hcc2⟩ : ∃ x, cap' - k = x := ⟨_, rfl⟩
  rw [HM2.out, hcc2] at hs2 hin2 hq2
  have hc3 : m2 ≤ c2 := by omega
  have hc4 : c2 ≤ 9223372036854775807 := by omega
  have hg3 : g < lp := by have := M3.out.row.lt; omega
  have hnx : ∀ b, In (.slice a' n cap') b → b < lp ∧ b ≠ g := fun b hb => by
    have h1 := N3.out b hb
    have h2 := V3.out.lt hb
    omega
  have HNX := Lib.hid hnx; have HIN2 := Lib.hid hin2; have HQ2 := Lib.hid hq2
  obtain ⟨M1, z1', x1, x2, x3, x4⟩ := Two.pushX_ok C (L := L0) (hx := 0) (nx := 0) (r := []) (l := A) rfl (by rw [HLEN.out]; decide) (by rw [HLEN.out]; exact FA.out) (by intro a _ b hb; cases hb) PA.out (by decide) (by rw [LA.out]; omega)
  rw [List.append_nil] at x1
  obtain ⟨M4, z4, y1, y2, y3, y4⟩ := Two.pushY_ok C (L := M1) (hy := 0) (ny := 0) (r := []) (l := B) rfl (by rw [x2, HLEN.out]; decide) (by rw [x2, HLEN.out]; exact FB.out) (by intro a _ b hb; cases hb) PB.out (by decide) (by rw [LB.out]; omega)
  rw [List.append_nil] at y1
  have hbr : ∀ a ∈ B, ∀ b ∈ A.reverse, Apart8 a b := fun a ha b hb => by have := PAB.out b (List.mem_reverse.1 hb) a ha; unfold Apart8 at this ⊢; omega
  have y5 := y3 x1 hbr
  rw [LA.out] at x4
  rw [LB.out] at y4
  obtain ⟨RA, hRA⟩ : ∃ x, A.reverse = x := ⟨_, rfl⟩
  obtain ⟨RB, hRB⟩ : ∃ x, B.reverse = x := ⟨_, rfl⟩
  have lra : RA.length = k := by rw [← hRA, List.length_reverse, LA.out]
  have lrb : RB.length = m2 := by rw [← hRB, List.length_reverse, LB.out]
  rw [hRA] at y5 hbr
  rw [hRB] at y1
  have hbr2 : ∀ a ∈ RB, ∀ b ∈ RA, Apart8 a b := fun a ha b hb => hbr a (by rw [← hRB] at ha; exact List.mem_reverse.1 ha) b hb
  have prb : RB.Pairwise Apart8 := by
    rw [← hRB, List.pairwise_reverse]
    exact PB.out.imp (fun h => by unfold Apart8 at h ⊢; omega)
  have ml4 : M4.length = 2048 := y2.trans (x2.trans HLEN.out)
  have X4 := Lib.hid (fun (w' : World) (t : Two w p g lp lq L0 0 0 0 0 w') => x4 (p := p) (g := g) (lx := lp) (ly := lq) (hy := 0) (ny := 0) w' t (a := a') (k := k) (cap := cap'))
  have Y4 := Lib.hid (fun (w' : World) (t : Two w p g lp lq M1 z1' (k : Int) 0 0 w') => y4 (p := p) (g := g) (lx := lp) (ly := lq) (hx := z1') (nx := (k : Int)) w' t (a := a2) (k := m2) (cap := c2))
  have CA := Lib.hid y5; have CB := Lib.hid y1; have LRA := Lib.hid lra; have LRB := Lib.hid lrb; have BR := Lib.hid hbr2; have PRB := Lib.hid prb; have ML := Lib.hid ml4
  have eq0 : (0 : Int) + (k : Int) = (k : Int) := by omega
  have eq1 : (0 : Int) + (m2 : Int) = (m2 : Int) := by omega
  have E0 := Lib.hid eq0; have E1 := Lib.hid eq1
  have hlq' : lp < lq := by omega
  clear hb hv hin hnx hin2 hq2 x1 x2 x3 x4 y1 y2 y3 y4 y5 hbr hbr2 prb ml4 lra lrb hRA hRB V3' O3 eq0 eq1 hcc2
  go_wp2_with fail
  refine (X4.out _ T3.out ?_ ?_ (by omega) hc2).mono ?_
  · rw [← HA.out]; exact V3A.out.seq.take (by omega)
  · intro b hb
    have := HNX.out b (in_cut hb)
    omega
  rintro e w4 ⟨rfl, ht, hu⟩
  rw [E0.out] at ht
  have T4 := Lib.hid ht
  have V4 := Lib.hid (V3A.out.upd hu (fun b hb => by have := HNX.out b hb; rintro (h | h) <;> omega))
  clear ht hu
  go_wp2_with fail
  refine (Y4.out _ T4.out ?_ ?_ hc3 hc4).mono ?_
  · rw [← HB.out]; exact HQ2.out _ _ V4.out.seq
  · intro b hb
    have := HNX.out b (HIN2.out b hb)
    omega
  rintro e w5 ⟨rfl, ht, hu⟩
  rw [E1.out] at ht
  have T5 := Lib.hid ht
  have hg5 : g < w5.heap.size := T5.out.mem.row.lt
  have hx5 : lp < w5.heap.size := T5.out.bx.lt
  have hy5 : lq < w5.heap.size := T5.out.by'.lt
  clear ht hu hs1 hs2
  have hA := all_at C CA.out (by rw [ML.out]; decide) (by rw [LRA.out]) (by rw [LRA.out, ML.out]; omega) (p := p) (g := g) (lp := lp) w5 T5.out.below T5.out.mem T5.out.bx
  rw [LRA.out] at hA
  have HAX := Lib.hid hA
  clear hA
  go_wp2_with fail
  refine HAX.out.mono ?_; rintro e w6 ⟨a6, cap6, rfl, hq, hd1, hd2, hin, hb⟩
  have Q6 := Lib.hid hq; have N6 := Lib.hid hin
  have T6 := Lib.hid (T5.out.grew hb)
  have s6 := hb.size
  have hA := all_at C CB.out (by rw [ML.out]; decide) (by rw [LRB.out]) (by rw [LRB.out, ML.out]; omega) (p := p) (g := g) (lp := lq) w6 T6.out.below T6.out.mem T6.out.by'
  rw [LRB.out] at hA
  have HAY := Lib.hid hA
  clear hA hq hin hb
  go_wp2_with fail
  refine HAY.out.mono ?_; rintro e w7 ⟨a7, cap7, rfl, hq, hd3, hd4, hin, hb⟩
  have Q7 := Lib.hid hq; have N7 := Lib.hid hin
  have T7 := Lib.hid (T6.out.grew hb)
  have Q67 := Lib.hid (Q6.out.below (Nat.le_refl _) hb)
  have s7 := hb.size
  obtain ⟨M8, z8, j1, j2, j3⟩ := T7.out.join C CA.out CB.out BR.out PRB.out (by rw [ML.out]; decide) (by rw [LRB.out]) (by rw [LRB.out, ML.out]; omega) (by rw [LRA.out]) (by rw [LRA.out]; omega)
  have lrc : (RB ++ RA).length = n := by rw [List.length_append, LRA.out, LRB.out]; omega
  rw [lrc] at j3
  obtain ⟨RC, hRC⟩ : ∃ x, RB ++ RA = x := ⟨_, rfl⟩
  rw [hRC] at j1 lrc
  have J1 := Lib.hid j1; have J2 : Hid (M8.length = 2048) := Lib.hid (j2.trans ML.out); have J3 := Lib.hid j3; have LRC := Lib.hid lrc; have HRC := Lib.hid hRC
  clear hq hin hb j1 j2 j3 lrc hRC
  go_wp2_with fail
  refine J3.out.mono ?_; rintro e w8 ⟨rfl, ht, hu⟩
  have T8 := Lib.hid ht
  have Q68 := Lib.hid (Q67.out.upd hu (fun b hb => by have := N6.out b hb; rintro (h | h | h) <;> omega))
  have Q78 := Lib.hid (Q7.out.upd hu (fun b hb => by have := N7.out b hb; rintro (h | h | h) <;> omega))
  have hA := all_at C J1.out (by rw [J2.out]; decide) (by rw [LRC.out]) (by rw [LRC.out, J2.out]; omega) (p := p) (g := g) (lp := lp) w8 T8.out.below T8.out.mem T8.out.bx
  rw [LRC.out] at hA
  have HAX2 := Lib.hid hA
  clear ht hu hA
  go_wp2_with fail
  refine HAX2.out.mono ?_; rintro e w9 ⟨a9, cap9, rfl, hq, hd5, hd6, hin, hb⟩
  have T9 := Lib.hid (T8.out.grew hb)
  have Q9 := Lib.hid hq
  have Q69 := Lib.hid (Q68.out.below (Nat.le_refl _) hb)
  have Q79 := Lib.hid (Q78.out.below (Nat.le_refl _) hb)
  have hA := all_at C (L := M8) (h := 0) (n := 0) (r := []) rfl (by rw [J2.out]; decide) rfl (by rw [J2.out]; decide) (p := p) (g := g) (lp := lq) w9 T9.out.below T9.out.mem T9.out.by'
  rw [List.length_nil] at hA
  have HAY2 := Lib.hid hA
  clear hq hin hb hA
  go_wp2_with fail
  refine HAY2.out.mono ?_; rintro e w10 ⟨a10, cap10, rfl, hq, hd7, hd8, hin, hb⟩
  have T10 := Lib.hid (T9.out.grew hb)
  have Q10 := Lib.hid (Q9.out.below (Nat.le_refl _) hb)
  have Q6A := Lib.hid (Q69.out.below (Nat.le_refl _) hb)
  have Q7A := Lib.hid (Q79.out.below (Nat.le_refl _) hb)
  have c0 : w10.cell? ⟨lq, 0, none⟩ = some (.int .u64 0) := T10.out.by'.cell 0
  have c1 : w10.cell? ⟨lq, 1, none⟩ = some (.int .i64 0) := T10.out.by'.cell 1
  have c2' : w10.cell? ⟨lp, 1, none⟩ = some (.int .i64 (n : Int)) := T10.out.bx.cell 1
  have tn : ((n : Int) == (n : Int)) = true := by simp
  clear hq hin hb
  have V10 := Lib.hid (Vec.new (E := Elem.u64s) w10 28)
  have Q7B := Lib.hid (Q7A.out.alloc (.cells #[] 28))
  have hy10 : lq < w10.heap.size := T10.out.by'.lt
  go_wp2_with (first
    | (at_builtin; refine wpList_append_vec_if (E := Elem.u64s) ?_ (.tmp 111) (.tmp 112) 37 rfl 28 i0 (.int .u64 0) 8 Try.underlying37 hi hz0 hz1 hz2 rfl (.slice (some ⟨w10.heap.size, 0, none⟩) 0 0) (.slice a7 m2 cap7) [] RB rfl rfl V10.out Q7B.out ?_ ?_ ?_; rfl; (have := LRA.out; have := LRB.out; simp only [maxLen, List.length_nil]; omega); (have := LRA.out; have := LRB.out; simp only [List.length_nil]; omega); intro v11 w11 hv11 hu11 hin11; have V11 := Lib.hid hv11; have U11 := Lib.hid hu11; have N11 := Lib.hid hin11; have B11 := Lib.hid (((Below.refl w10.heap.size w10).alloc (Nat.le_refl _) (.cells #[] 28)).trans (hu11.below (fun b hb => by have := in_blk hb; omega) (by simp))); have Q6B := Lib.hid (Q6A.out.below (Nat.le_refl _) B11.out); clear hv11 hu11 hin11)
    | (at_builtin; refine wpList_append_vec_if (E := Elem.u64s) ?_ (.tmp 113) (.tmp 114) 37 rfl 28 i0 (.int .u64 0) 8 Try.underlying37 hi hz0 hz1 hz2 rfl v11 (.slice a6 k cap6) ([] ++ RB) RA rfl rfl V11.out Q6B.out ?_ ?_ ?_; rfl; (have := LRA.out; have := LRB.out; simp only [maxLen, List.length_append, List.length_nil]; omega); (have := LRA.out; have := LRB.out; simp only [List.length_append, List.length_nil]; omega); intro v12 w12 hv12 hu12 hin12; have V12 := Lib.hid hv12; have U12 := Lib.hid hu12; have N12 := Lib.hid hin12; clear hv12 hu12 hin12))
  have B12 := Lib.hid (B11.out.trans (U12.out.below (B := w10.heap.size) (fun b hb => by
    rcases N11.out b hb with h | h
    · have := in_blk h; omega
    · simp at h; omega) B11.out.size))
  have V12' : Vec Elem.u64s w12 v12 RC := by rw [← HRC.out]; exact V12.out
  obtain ⟨a12, cap12, rfl, hd9, hd10⟩ := V12'.slice'
  have hS := same7_any w12 (Q10.out.below (Nat.le_refl _) B12.out) V12'.seq (by omega) (by omega)
  rw [decide_eq_true (show RC = RC from rfl)] at hS
  have HSM := Lib.hid hS
  have BE := Lib.hid (below_then T10.out.below T10.out.below.size B12.out)
  clear hS V12'
  refine HSM.out.mono ?_; rintro e w13 ⟨rfl, hb⟩
  have BF := Lib.hid (below_then BE.out BE.out.size hb)
  clear hb
  go_wp2
  go_ret
  exact ⟨rfl, BF.out⟩
end Go.Proofs.Ytmnnmgphiiedgaa.listJoins
