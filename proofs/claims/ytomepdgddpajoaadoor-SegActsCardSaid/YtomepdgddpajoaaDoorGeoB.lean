/- The program's geo: At, Addr, Block, Index: contracts. -/
import Derived.Test.YtomepdgddpajoaaDoorGeoA
namespace Go.Proofs.YtomepdgddpajoaaDoor
open Go.RowKit GeoMath
set_option linter.unusedVariables false

theorem code_at (w : World) (a : Nat) (ha : U64B a) : Calls Tryd.prog 57 #[.int .u64 (a : Int)] w fun e w' => e = .returned (.tuple #[plcV (atN a), .int .i64 (atE a)]) ∧ Below w.heap.size w w' := by
  by_cases h : a < 1048576
  · rw [atN_lt h, atE_lt h]
    have t1 : decide ((1048576 : Int) ≤ (a : Int)) = false := decide_eq_false (by omega)
    obtain ⟨x, hx⟩ : ∃ x, a / 16384 = x := ⟨_, rfl⟩
    obtain ⟨y, hy⟩ : ∃ y, a % 16384 = y := ⟨_, rfl⟩
    obtain ⟨z, hz⟩ : ∃ z, y / 1024 = z := ⟨_, rfl⟩
    obtain ⟨o, ho⟩ : ∃ o, a % 1024 = o := ⟨_, rfl⟩
    rw [hy, hx, hz, ho]
    have d1 : Int.tdiv (a : Int) 16384 = (x : Int) := by rw [← hx]; exact (Int.ofNat_tdiv _ _).symm
    have d2 : Int.tmod (a : Int) 16384 = (y : Int) := by rw [← hy]; exact (Int.ofNat_tmod _ _).symm
    have d3 : Int.tdiv (y : Int) 1024 = (z : Int) := by rw [← hz]; exact (Int.ofNat_tdiv _ _).symm
    have d4 : Int.tmod (a : Int) 1024 = (o : Int) := by rw [← ho]; exact (Int.ofNat_tmod _ _).symm
    have i1 : (a : Int) / 16384 = (x : Int) := by omega
    have i2 : (a : Int) % 16384 = (y : Int) := by omega
    have i3 : (y : Int) / 1024 = (z : Int) := by omega
    have i4 : (a : Int) % 1024 = (o : Int) := by omega
    have w1 : IntKind.i64.wrap (x : Int) = (x : Int) := IntWalk.i64_in _ ⟨by omega, by omega⟩
    have w2 : IntKind.i64.wrap (z : Int) = (z : Int) := IntWalk.i64_in _ ⟨by omega, by omega⟩
    clear h hx hy hz ho
    go_enter Tryd.func57, Tryd.ntmps57
    go_wp2
    refine bodyPost_ret (v := .tuple #[plcV ⟨(x : Int), (z : Int), o⟩, .int .i64 0]) ?_ rfl ⟨rfl, (Below.refl _ w).alloc (Nat.le_refl _) _⟩
    simp [results, Tryd.results57, go_sem, plcV]
  · rw [atN_ge h, atE_ge h]
    have t1 : decide ((1048576 : Int) ≤ (a : Int)) = true := decide_eq_true (by omega)
    clear h
    go_enter Tryd.func57, Tryd.ntmps57
    go_wp2
    refine bodyPost_ret (v := .tuple #[plcV ⟨0, 0, 0⟩, .int .i64 3]) ?_ rfl ⟨rfl, (Below.refl _ w).alloc (Nat.le_refl _) _⟩
    simp [results, Tryd.results57, go_sem, plcV]
set_option maxHeartbeats 1000000 in
theorem code_addr (w : World) (g l : Int) (o : Nat) (hg : I64B g) (hl : I64B l) (ho : U64B o) : Calls Tryd.prog 79 #[.agg #[.int .i64 g, .int .i64 l, .int .u64 (o : Int)]] w fun e w' => e = .returned (.tuple #[.int .u64 ((addrN g l o : Nat) : Int), .int .i64 (addrE g l o)]) ∧ Below w.heap.size w w' := by
  have HG := Lib.hid (fun w => code_below w g 64 hg (by decide))
  have HL := Lib.hid (fun w => code_below w l 16 hl (by decide))
  obtain ⟨g1, g2⟩ := hg
  obtain ⟨l1, l2⟩ := hl
  have hcase : (∃ x y : Nat, g = (x : Int) ∧ l = (y : Int) ∧ x ≤ 63 ∧ y ≤ 15 ∧ o ≤ 1023) ∨ (isPlc g l o = false ∧ (((decide (0 ≤ g) && decide (g < 64)) = false) ∨ ((decide (0 ≤ g) && decide (g < 64)) = true ∧ (decide (0 ≤ l) && decide (l < 16)) = false) ∨ ((decide (0 ≤ g) && decide (g < 64)) = true ∧ (decide (0 ≤ l) && decide (l < 16)) = true ∧ decide ((1024 : Int) ≤ (o : Int)) = true))) := by
    by_cases h : isPlc g l o = true
    · obtain ⟨h1, h2, h3, h4, h5⟩ := isPlc_iff.1 h
      exact Or.inl ⟨g.toNat, l.toNat, by omega, by omega, by omega, by omega, h5⟩
    · refine Or.inr ⟨Bool.eq_false_iff.2 h, ?_⟩
      rw [isPlc_iff] at h
      simp only [Bool.and_eq_true, Bool.and_eq_false_iff, decide_eq_true_iff, decide_eq_false_iff_not]
      omega
  rcases hcase with ⟨x, y, rfl, rfl, hx, hy, ho2⟩ | ⟨hno, hcase⟩
  · obtain ⟨e1, e2⟩ := addr_of (l := y) hx hy ho2
    rw [e1, e2]
    have t1 : (decide ((0 : Int) ≤ (x : Int)) && decide ((x : Int) < 64)) = true := by simp only [Bool.and_eq_true, decide_eq_true_iff]; omega
    have t2 : (decide ((0 : Int) ≤ (y : Int)) && decide ((y : Int) < 16)) = true := by simp only [Bool.and_eq_true, decide_eq_true_iff]; omega
    rw [t1] at HG; rw [t2] at HL
    have t5 : decide ((1024 : Int) ≤ (o : Int)) = false := decide_eq_false (by omega)
    have w1 : IntKind.u64.wrap (x : Int) = (x : Int) := u64_in _ ⟨by omega, by omega⟩
    have w2 : IntKind.u64.wrap (y : Int) = (y : Int) := u64_in _ ⟨by omega, by omega⟩
    clear e1 e2 t1 t2
    go_enter Tryd.func79, Tryd.ntmps79
    go_wp2_with fail
    refine (HG.out _).mono ?_; rintro e w3 ⟨rfl, rfl⟩
    go_wp2_with fail
    refine (HL.out _).mono ?_; rintro e w3 ⟨rfl, rfl⟩
    go_wp2
    go_ret2
    exact ⟨(show Ending.returned (.tuple #[.int .u64 ((x : Int) * 16384 + (y : Int) * 1024 + (o : Int)), .int .i64 0]) = _ from ret_u2 (by omega) rfl), (Below.refl _ w).alloc (Nat.le_refl _) _⟩
  · have e1 : addrN g l o = 0 := by unfold addrN; rw [if_neg (by rw [hno]; decide)]
    have e2 : addrE g l o = 3 := by unfold addrE; rw [if_neg (by rw [hno]; decide)]
    rw [e1, e2]
    clear e1 e2 hno
    rcases hcase with t1 | ⟨t1, t2⟩ | ⟨t1, t2, t3⟩
    · rw [t1] at HG
      clear t1
      go_enter Tryd.func79, Tryd.ntmps79
      go_wp2_with fail
      refine (HG.out _).mono ?_; rintro e w3 ⟨rfl, rfl⟩
      go_wp2
      go_ret2
      exact ⟨rfl, (Below.refl _ w).alloc (Nat.le_refl _) _⟩
    · rw [t1] at HG; rw [t2] at HL
      clear t1 t2
      go_enter Tryd.func79, Tryd.ntmps79
      go_wp2_with fail
      refine (HG.out _).mono ?_; rintro e w3 ⟨rfl, rfl⟩
      go_wp2_with fail
      refine (HL.out _).mono ?_; rintro e w3 ⟨rfl, rfl⟩
      go_wp2
      go_ret2
      exact ⟨rfl, (Below.refl _ w).alloc (Nat.le_refl _) _⟩
    · rw [t1] at HG; rw [t2] at HL
      clear t1 t2
      go_enter Tryd.func79, Tryd.ntmps79
      go_wp2_with fail
      refine (HG.out _).mono ?_; rintro e w3 ⟨rfl, rfl⟩
      go_wp2_with fail
      refine (HL.out _).mono ?_; rintro e w3 ⟨rfl, rfl⟩
      go_wp2
      go_ret2
      exact ⟨rfl, (Below.refl _ w).alloc (Nat.le_refl _) _⟩
set_option maxHeartbeats 1000000 in
theorem code_block (w : World) (f s : Nat) (n i : Int) (hf : U64B f) (hs : U64B s) (hn : I64B n) (hi : I64B i) : Calls Tryd.prog 94 #[runV f s n, .int .i64 i] w fun e w' => e = .returned (.tuple #[.int .u64 ((blockN f s n i : Nat) : Int), .int .i64 (blockE f s n i)]) ∧ Below w.heap.size w w' := by
  have HM := Lib.hid (fun w => code_may w f s n hf hs hn)
  have HL := Lib.hid (fun w => code_below w i n hi hn)
  obtain ⟨n1, n2⟩ := hn
  obtain ⟨i1, i2⟩ := hi
  unfold runV at HM ⊢
  cases hm : mayN f s n with
  | false =>
    obtain ⟨e1, e2⟩ := block_false (i := i) hm
    rw [e1, e2]
    rw [hm] at HM
    clear e1 e2 hm
    go_enter Tryd.func94, Tryd.ntmps94
    go_wp2_with fail
    refine (HM.out _).mono ?_; rintro e w1 ⟨rfl, hb⟩
    have B1 := Lib.hid (below_then ((Below.refl _ w).alloc (Nat.le_refl _) _) (by simp) hb)
    clear hb
    go_wp2
    go_ret2
    exact ⟨rfl, B1.out⟩
  | true =>
    rw [hm] at HM
    obtain ⟨m, rfl, h1, h2, h3, h4, h5⟩ := may_true hm
    by_cases hin : 0 ≤ i ∧ i < (m : Int)
    · obtain ⟨j, rfl⟩ := Int.eq_ofNat_of_zero_le hin.1
      have hj : j < m := by omega
      obtain ⟨e1, e2⟩ := block_true hm hj
      rw [e1, e2]
      have H5 := Lib.hid h5
      obtain ⟨p1, p2⟩ := prod_bd (show j ≤ 1024 by omega) h2
      have t1 : (decide ((0 : Int) ≤ (j : Int)) && decide ((j : Int) < (m : Int))) = true := by simp only [Bool.and_eq_true, decide_eq_true_iff]; omega
      rw [t1] at HL
      have w1 : IntKind.u64.wrap (j : Int) = (j : Int) := u64_in _ ⟨by omega, by omega⟩
      clear e1 e2 hm h5 hin t1
      go_enter Tryd.func94, Tryd.ntmps94
      go_wp2_with fail
      refine (HM.out _).mono ?_; rintro e w1 ⟨rfl, hb⟩
      have B1 := Lib.hid (below_then ((Below.refl _ w).alloc (Nat.le_refl _) _) (by simp) hb)
      have K := (Blk.new w 68 #[.int .u64 (f : Int), .int .u64 (s : Int), .int .i64 (m : Int)]).grew hb
      obtain ⟨bq, hbq⟩ : ∃ bq, w.heap.size = bq := ⟨_, rfl⟩
      rw [hbq] at K
      have r0 : w1.cell? ⟨bq, 0, none⟩ = some (.int .u64 (f : Int)) := K.cell 0
      have r1 : w1.cell? ⟨bq, 1, none⟩ = some (.int .u64 (s : Int)) := K.cell 1
      have r2 : w1.cell? ⟨bq, 2, none⟩ = some (.int .i64 (m : Int)) := K.cell 2
      clear hb K
      go_wp2_with fail
      refine (HL.out _).mono ?_; rintro e w3 ⟨rfl, rfl⟩
      go_wp2
      go_ret2
      exact ⟨rfl, B1.out⟩
    · obtain ⟨e1, e2⟩ := block_out hm hin
      rw [e1, e2]
      have t1 : (decide ((0 : Int) ≤ i) && decide (i < (m : Int))) = false := by simp only [Bool.and_eq_false_iff, decide_eq_false_iff_not]; omega
      rw [t1] at HL
      clear e1 e2 hm h5 hin t1
      go_enter Tryd.func94, Tryd.ntmps94
      go_wp2_with fail
      refine (HM.out _).mono ?_; rintro e w1 ⟨rfl, hb⟩
      have B1 := Lib.hid (below_then ((Below.refl _ w).alloc (Nat.le_refl _) _) (by simp) hb)
      have K := (Blk.new w 68 #[.int .u64 (f : Int), .int .u64 (s : Int), .int .i64 (m : Int)]).grew hb
      obtain ⟨bq, hbq⟩ : ∃ bq, w.heap.size = bq := ⟨_, rfl⟩
      rw [hbq] at K
      have r2 : w1.cell? ⟨bq, 2, none⟩ = some (.int .i64 (m : Int)) := K.cell 2
      clear hb K
      go_wp2_with fail
      refine (HL.out _).mono ?_; rintro e w3 ⟨rfl, rfl⟩
      go_wp2
      go_ret2
      exact ⟨rfl, B1.out⟩
/-- Index: by division. -/
theorem index_div {f s a m x : Nat} (hm : mayN f s (m : Int) = true) (hh : hits f s (m : Int) a = true) (hx : a - f = x) : f ≤ a ∧ x / s ≤ 1024 ∧
    ((x % s = 0 ∧ indexN f s (m : Int) a = x / s ∧ indexE f s (m : Int) a = 0) ∨ (¬ x % s = 0 ∧ indexN f s (m : Int) a = 0 ∧ indexE f s (m : Int) a = 5)) := by
  subst hx
  obtain ⟨a1, a2⟩ := hits_iff.1 hh
  obtain ⟨h1, h2, h3, h4, h5, h6⟩ := may_iff.1 hm
  rw [Int.toNat_natCast] at a2 h6
  refine ⟨a1, ?_, ?_⟩
  · have : (a - f) / s < m := by rw [Nat.div_lt_iff_lt_mul (by omega)]; omega
    omega
  · unfold indexN indexE
    rw [if_pos hm, if_pos hh]
    by_cases h0 : (a - f) % s = 0
    · rw [if_pos h0, if_pos ⟨hm, hh, h0⟩]; exact Or.inl ⟨h0, rfl, rfl⟩
    · rw [if_neg h0, if_neg (fun x => h0 x.2.2)]; exact Or.inr ⟨h0, rfl, rfl⟩
set_option maxHeartbeats 1000000 in
theorem code_index (w : World) (f s : Nat) (n : Int) (a : Nat) (hf : U64B f) (hs : U64B s) (hn : I64B n) (ha : U64B a) : Calls Tryd.prog 89 #[runV f s n, .int .u64 (a : Int)] w fun e w' => e = .returned (.tuple #[.int .i64 ((indexN f s n a : Nat) : Int), .int .i64 (indexE f s n a)]) ∧ Below w.heap.size w w' := by
  have HM := Lib.hid (fun w => code_may w f s n hf hs hn)
  have HH := Lib.hid (fun w hm => code_has w f s n a hf hs hn ha hm)
  obtain ⟨n1, n2⟩ := hn
  unfold runV at HM HH ⊢
  cases hm : mayN f s n with
  | false =>
    obtain ⟨e1, e2⟩ := index_bad (a := a) (fun x => by rw [hm] at x; cases x)
    rw [e1, e2]
    rw [hm] at HM
    clear e1 e2 hm HH
    go_enter Tryd.func89, Tryd.ntmps89
    go_wp2_with fail
    refine (HM.out _).mono ?_; rintro e w1 ⟨rfl, hb⟩
    have B1 := Lib.hid (below_then ((Below.refl _ w).alloc (Nat.le_refl _) _) (by simp) hb)
    clear hb
    go_wp2
    go_ret2
    exact ⟨rfl, B1.out⟩
  | true =>
    rw [hm] at HM
    obtain ⟨m, rfl, h1, h2, h3, h4, h5⟩ := may_true hm
    have HT := Lib.hid (fun w => HH.out w hm)
    clear HH
    cases hh : hits f s (m : Int) a with
    | false =>
      obtain ⟨e1, e2⟩ := index_out hm hh
      rw [e1, e2]
      rw [hh] at HT
      clear e1 e2 hm hh h5
      go_enter Tryd.func89, Tryd.ntmps89
      go_wp2_with fail
      generalize hW : w.alloc (.cells #[.int .u64 (f : Int), .int .u64 (s : Int), .int .i64 (m : Int)] 68) = W
      have ST := Lib.hid (run_boxed w 68 f s (m : Int) hW)
      obtain ⟨bb, hbb⟩ : ∃ bb, w.heap.size = bb := ⟨_, rfl⟩
      rw [hbb] at ST
      clear hW
      refine (HM.out _).mono ?_; rintro e w1 ⟨rfl, hb⟩
      have ST := Lib.hid (ST.out.grew hb)
      obtain ⟨r0, r1, r2⟩ := ST.out.cells
      clear hb
      go_wp2_with fail
      refine (HT.out _).mono ?_; rintro e w2 ⟨rfl, hb⟩
      have ST := Lib.hid (ST.out.grew hb)
      clear hb r0 r1 r2
      go_wp2
      go_ret2
      exact ⟨rfl, ST.out.below⟩
    | true =>
      rw [hh] at HT
      obtain ⟨x, hx⟩ : ∃ x, a - f = x := ⟨_, rfl⟩
      obtain ⟨a1, a2, hcase⟩ := index_div hm hh hx
      have i1 : (a : Int) - (f : Int) = (x : Int) := by omega
      obtain ⟨q, hq⟩ : ∃ q, x / s = q := ⟨_, rfl⟩
      obtain ⟨y, hy⟩ : ∃ y, x % s = y := ⟨_, rfl⟩
      have d1 : Int.tdiv (x : Int) (s : Int) = (q : Int) := by rw [← hq]; exact (Int.ofNat_tdiv _ _).symm
      have d2 : Int.tmod (x : Int) (s : Int) = (y : Int) := by rw [← hy]; exact (Int.ofNat_tmod _ _).symm
      have d0 : ((s : Int) == 0) = false := by rw [beq_eq_false_iff_ne]; omega
      have d0' : ¬ (s : Int) = 0 := by omega
      rw [hq] at a2 hcase
      rw [hy] at hcase
      have w1 : IntKind.i64.wrap (q : Int) = (q : Int) := IntWalk.i64_in _ ⟨by omega, by omega⟩
      have hy0 : (y = 0 ∧ ((y : Int) != 0) = false ∧ indexN f s (m : Int) a = q ∧ indexE f s (m : Int) a = 0) ∨ (¬ y = 0 ∧ ((y : Int) != 0) = true ∧ indexN f s (m : Int) a = 0 ∧ indexE f s (m : Int) a = 5) := by
        rcases hcase with ⟨c1, c2⟩ | ⟨c1, c2⟩
        · exact Or.inl ⟨c1, by simp [c1], c2⟩
        · exact Or.inr ⟨c1, by rw [bne_iff_ne]; omega, c2⟩
      clear hm hh h5 hx hq hy hcase
      have D0 := Lib.hid d0'
      rcases hy0 with ⟨y0, t1, e1, e2⟩ | ⟨y0, t1, e1, e2⟩
      all_goals
        rw [e1, e2]
        have Y0 := Lib.hid y0
        clear e1 e2 y0
        go_enter Tryd.func89, Tryd.ntmps89
        go_wp2_with fail
        generalize hW : w.alloc (.cells #[.int .u64 (f : Int), .int .u64 (s : Int), .int .i64 (m : Int)] 68) = W
        have ST := Lib.hid (run_boxed w 68 f s (m : Int) hW)
        obtain ⟨bb, hbb⟩ : ∃ bb, w.heap.size = bb := ⟨_, rfl⟩
        rw [hbb] at ST
        clear hW
        refine (HM.out _).mono ?_; rintro e w1 ⟨rfl, hb⟩
        have ST := Lib.hid (ST.out.grew hb)
        obtain ⟨r0, r1, r2⟩ := ST.out.cells
        clear hb
        go_wp2_with fail
        refine (HT.out _).mono ?_; rintro e w2 ⟨rfl, hb⟩
        have ST := Lib.hid (ST.out.grew hb)
        clear hb r0 r1 r2
        obtain ⟨r0, r1, r2⟩ := ST.out.cells
        go_wp2
        go_ret2
        exact ⟨rfl, ST.out.below⟩
end Go.Proofs.YtomepdgddpajoaaDoor
