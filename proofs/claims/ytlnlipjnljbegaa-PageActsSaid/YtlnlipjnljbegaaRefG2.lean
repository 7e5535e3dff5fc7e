/- The document's own runs (allotmentref06): May, End, Block: contracts. -/
import Derived.Test.YtlnlipjnljbegaaRefG1
import Derived.Test.YtlnlipjnljbegaaRunMath
namespace Go.Proofs.Ytlnlipjnljbegaa
open Go.RowKit GeoMath
set_option linter.unusedVariables false

set_option maxHeartbeats 1000000 in
theorem ref_may (w : World) (f s : Nat) (n : Int) (hf : U64B f) (hs : U64B s) (hn : I64B n) : Calls Try.prog 39 #[runV f s n] w fun e w' => e = .returned (.bool (mayN f s n)) ∧ Below w.heap.size w w' := by
  obtain ⟨n1, n2⟩ := hn
  obtain ⟨b, hb⟩ : ∃ b, mayN f s n = b := ⟨_, rfl⟩
  have hc := may_cases (f := f) (s := s) (n := n)
  rw [hb] at hc ⊢
  clear hb
  unfold runV
  rcases hc with ⟨m, rfl, h1, h2, h3, h4, t6⟩ | ⟨rfl, hc⟩
  · obtain ⟨p1, p2⟩ := prod_bd h3 h2
    have t1 : decide ((1 : Int) ≤ (s : Int)) = true := decide_eq_true (by omega)
    have t2 : decide ((s : Int) ≤ 1048576) = true := decide_eq_true (by omega)
    have t3 : decide ((0 : Int) ≤ (m : Int)) = true := decide_eq_true (by omega)
    have t4 : decide ((m : Int) ≤ 1024) = true := decide_eq_true (by omega)
    have t5 : decide ((f : Int) ≤ 1048576) = true := decide_eq_true (by omega)
    have w1 : IntKind.u64.wrap (m : Int) = (m : Int) := u64_in _ ⟨by omega, by omega⟩
    go_enter Try.func39, Try.ntmps39
    go_wp2
    go_ret
    exact ⟨rfl, (Below.refl _ w).alloc (Nat.le_refl _) _⟩
  · rcases hc with t1 | ⟨t1, t2⟩ | ⟨t1, t2, t3⟩ | ⟨t1, t2, t3, t4⟩ | ⟨t1, t2, t3, t4, t5⟩
    all_goals
      go_enter Try.func39, Try.ntmps39
      go_wp2
      go_ret
      exact ⟨rfl, (Below.refl _ w).alloc (Nat.le_refl _) _⟩
theorem ref_end (w : World) (f s : Nat) (n : Int) (hf : U64B f) (hs : U64B s) (hn : I64B n) : Calls Try.prog 40 #[runV f s n] w fun e w' => e = .returned (.int .u64 ((endN f s n : Nat) : Int)) ∧ Below w.heap.size w w' := by
  have HM := Lib.hid (fun w => ref_may w f s n hf hs hn)
  obtain ⟨n1, n2⟩ := hn
  obtain ⟨E, hE⟩ : ∃ E, endN f s n = E := ⟨_, rfl⟩
  rw [hE]
  unfold runV at HM ⊢
  cases hm : mayN f s n with
  | false =>
    obtain rfl : E = 0 := by rw [← hE]; exact end_false hm
    rw [hm] at HM
    clear hE hm
    go_enter Try.func40, Try.ntmps40
    go_wp2_with fail
    refine (HM.out _).mono ?_; rintro e w1 ⟨rfl, hb⟩
    have B1 := Lib.hid (below_then ((Below.refl _ w).alloc (Nat.le_refl _) _) (by simp) hb)
    clear hb
    go_wp2
    go_ret
    exact ⟨rfl, B1.out⟩
  | true =>
    rw [hm] at HM
    obtain ⟨m, rfl, h1, h2, h3, h4, h5⟩ := may_true hm
    have HE := Lib.hid (end_true hm)
    rw [hE] at HE
    obtain ⟨p1, p2⟩ := prod_bd h3 h2
    have w1 : IntKind.u64.wrap (m : Int) = (m : Int) := u64_in _ ⟨by omega, by omega⟩
    clear hE hm h5
    go_enter Try.func40, Try.ntmps40
    go_wp2_with fail
    refine (HM.out _).mono ?_; rintro e w1 ⟨rfl, hb⟩
    have B1 := Lib.hid (below_then ((Below.refl _ w).alloc (Nat.le_refl _) _) (by simp) hb)
    have K := (Blk.new w 24 #[.int .u64 (f : Int), .int .u64 (s : Int), .int .i64 (m : Int)]).grew hb
    obtain ⟨bq, hbq⟩ : ∃ bq, w.heap.size = bq := ⟨_, rfl⟩
    rw [hbq] at K
    have r0 : w1.cell? ⟨bq, 0, none⟩ = some (.int .u64 (f : Int)) := K.cell 0
    have r1 : w1.cell? ⟨bq, 1, none⟩ = some (.int .u64 (s : Int)) := K.cell 1
    have r2 : w1.cell? ⟨bq, 2, none⟩ = some (.int .i64 (m : Int)) := K.cell 2
    clear hb K
    go_wp2
    go_ret
    exact ⟨(show Ending.returned (.int .u64 ((f : Int) + (m : Int) * (s : Int))) = _ from ret_u1 HE.out.symm), B1.out⟩
theorem ref_block (w : World) (f s : Nat) (n i : Int) (hf : U64B f) (hs : U64B s) (hn : I64B n) (hi : I64B i) : Calls Try.prog 53 #[runV f s n, .int .i64 i] w fun e w' => e = .returned (.tuple #[.int .u64 ((blockN f s n i : Nat) : Int), .int .i64 (blockE f s n i)]) ∧ Below w.heap.size w w' := by
  have HM := Lib.hid (fun w => ref_may w f s n hf hs hn)
  obtain ⟨n1, n2⟩ := hn
  obtain ⟨i1, i2⟩ := hi
  unfold runV at HM ⊢
  cases hm : mayN f s n with
  | false =>
    obtain ⟨e1, e2⟩ := block_false (i := i) hm
    rw [e1, e2]
    rw [hm] at HM
    clear e1 e2 hm
    go_enter Try.func53, Try.ntmps53
    go_wp2_with fail
    refine (HM.out _).mono ?_; rintro e w1 ⟨rfl, hb⟩
    have B1 := Lib.hid (below_then ((Below.refl _ w).alloc (Nat.le_refl _) _) (by simp) hb)
    clear hb
    go_wp2
    go_ret2
    exact ⟨rfl, B1.out⟩
  | true =>
    rw [hm] at HM
    obtain ⟨m, rfl, h1, h2, h3, h4, h5⟩ := may_true hm
    by_cases hin : 0 ≤ i ∧ i < (m : Int)
    · obtain ⟨j, rfl⟩ := Int.eq_ofNat_of_zero_le hin.1
      have hj : j < m := by omega
      obtain ⟨e1, e2⟩ := block_true hm hj
      rw [e1, e2]
      have H5 := Lib.hid h5
      obtain ⟨p1, p2⟩ := prod_bd (show j ≤ 1024 by omega) h2
      have t1 : decide ((j : Int) < 0) = false := decide_eq_false (by omega)
      have t2 : decide ((m : Int) ≤ (j : Int)) = false := decide_eq_false (by omega)
      have t3 : decide (m ≤ j) = false := decide_eq_false (by omega)
      have w1 : IntKind.u64.wrap (j : Int) = (j : Int) := u64_in _ ⟨by omega, by omega⟩
      clear e1 e2 hm h5 hin
      go_enter Try.func53, Try.ntmps53
      go_wp2_with fail
      refine (HM.out _).mono ?_; rintro e w1 ⟨rfl, hb⟩
      have B1 := Lib.hid (below_then ((Below.refl _ w).alloc (Nat.le_refl _) _) (by simp) hb)
      have K := (Blk.new w 24 #[.int .u64 (f : Int), .int .u64 (s : Int), .int .i64 (m : Int)]).grew hb
      obtain ⟨bq, hbq⟩ : ∃ bq, w.heap.size = bq := ⟨_, rfl⟩
      rw [hbq] at K
      have r0 : w1.cell? ⟨bq, 0, none⟩ = some (.int .u64 (f : Int)) := K.cell 0
      have r1 : w1.cell? ⟨bq, 1, none⟩ = some (.int .u64 (s : Int)) := K.cell 1
      have r2 : w1.cell? ⟨bq, 2, none⟩ = some (.int .i64 (m : Int)) := K.cell 2
      clear hb K
      go_wp2
      go_ret2
      exact ⟨rfl, B1.out⟩
    · obtain ⟨e1, e2⟩ := block_out hm hin
      rw [e1, e2]
      have hcase : (decide (i < 0) = true) ∨ (decide (i < 0) = false ∧ decide ((m : Int) ≤ i) = true) := by
        simp only [decide_eq_true_iff, decide_eq_false_iff_not]; omega
      clear e1 e2 hm h5 hin
      rcases hcase with t1 | ⟨t1, t2⟩
      all_goals
        go_enter Try.func53, Try.ntmps53
        go_wp2_with fail
        refine (HM.out _).mono ?_; rintro e w1 ⟨rfl, hb⟩
        have B1 := Lib.hid (below_then ((Below.refl _ w).alloc (Nat.le_refl _) _) (by simp) hb)
        have K := (Blk.new w 24 #[.int .u64 (f : Int), .int .u64 (s : Int), .int .i64 (m : Int)]).grew hb
        obtain ⟨bq, hbq⟩ : ∃ bq, w.heap.size = bq := ⟨_, rfl⟩
        rw [hbq] at K
        have r2 : w1.cell? ⟨bq, 2, none⟩ = some (.int .i64 (m : Int)) := K.cell 2
        clear hb K
        go_wp2
        go_ret2
        exact ⟨rfl, B1.out⟩
end Go.Proofs.Ytlnlipjnljbegaa
