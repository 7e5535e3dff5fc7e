/- The document's own classes (allotmentref05): For: contract. -/
import Derived.Test.YthblggnjfmgonaaDoorRefC2
import Derived.Laws.Small
namespace Go.Proofs.YthblggnjfmgonaaDoor
open Go.RowKit ClassMath
set_option linter.unusedVariables false

/-- Is it one of the first i powers of two? -/
def isTo (a i : Nat) : Bool := (List.range i).any fun j => decide (2 ^ j = a)
theorem isTo_zero (a : Nat) : isTo a 0 = false := rfl
theorem isTo_step (a i : Nat) : isTo a (i + 1) = (isTo a i || decide (2 ^ i = a)) := by
  unfold isTo; rw [List.range_succ, List.any_append]; simp
theorem isTo_all (a : Nat) : isTo a 11 = isAl a := by
  rw [Bool.eq_iff_iff]
  unfold isTo isAl
  simp [List.range, List.range.loop]
  omega
theorem isAl_pos {a : Nat} (h : isAl a = true) : 1 ≤ a ∧ a ≤ 1024 := by
  unfold isAl at h
  simp at h
  omega
def plV (p : Pl) : Value := .agg #[.int .i64 p.c, .int .i64 (p.sl : Int), .int .i64 (p.sg : Int), .int .u64 (p.us : Int)]
theorem put4 {w : World} {g : Nat} {t : TypeId} {a b c d : Value} (h : Blk w g t #[a, b, c, d]) (v0 v1 v2 v3 : Value) : Blk ((((w.setCell ⟨g, 0, none⟩ v0).setCell ⟨g, 1, none⟩ v1).setCell ⟨g, 2, none⟩ v2).setCell ⟨g, 3, none⟩ v3) g t #[v0, v1, v2, v3] := by
  have := (((h.put 0 v0).put 1 v1).put 2 v2).put 3 v3
  simpa using this
theorem below4 {w w1 : World} (h : Below w.heap.size w w1) (v0 v1 v2 v3 : Value) {g : Nat} (hg : w.heap.size ≤ g) : Below w.heap.size w ((((w1.setCell ⟨g, 0, none⟩ v0).setCell ⟨g, 1, none⟩ v1).setCell ⟨g, 2, none⟩ v2).setCell ⟨g, 3, none⟩ v3) :=
  (((h.setCell (p := ⟨g, 0, none⟩) hg v0).setCell (p := ⟨g, 1, none⟩) hg v1).setCell (p := ⟨g, 2, none⟩) hg v2).setCell (p := ⟨g, 3, none⟩) hg v3
def Powers (w : World) (a : Nat) (ok p : Value) (wr : World) : Prop := ∃ i q : Nat, i ≤ 11 ∧ q = 2 ^ i ∧ ok = .bool (isTo a i) ∧ p = .int .u64 (q : Int) ∧ Blk wr w.heap.size 42 #[.int .i64 0, .int .i64 0, .int .i64 0, .int .u64 0] ∧ Below w.heap.size w wr
set_option maxRecDepth 100000 in
set_option maxHeartbeats 2000000 in
theorem ref_for_bad (w : World) (n a : Nat) (hn : n ≤ 18446744073709551615) (ha : a ≤ 18446744073709551615) (hb : ¬ (isAl a = true ∧ n ≤ 1048576)) :
    Calls Tryd.prog 21 #[.int .u64 (n : Int), .int .u64 (a : Int)] w fun e w' => e = .returned (.tuple #[plV Pl.none, .int .i64 2]) ∧ Below w.heap.size w w' := by
  have HB := Lib.hid hb
  clear hb
  go_enter Tryd.func21, Tryd.ntmps21
  go_wp2
  go_loopw [6, 7] (fun ok p wr => Powers w a ok p wr) (fun ok p _ => 4096 - (intOf p).toNat)
  case atStart => exact ⟨0, 1, by omega, rfl, rfl, rfl, Blk.new w _ _, (Below.refl _ w).alloc (Nat.le_refl _) _⟩
  case round =>
    obtain ⟨i, q, hi, hq, rfl, rfl, hbk, hbl⟩ := hrel
    have K := Lib.hid hbk; have B := Lib.hid hbl
    have HQ := Lib.hid hq
    have hq1 : 1 ≤ q := by rw [hq]; exact Nat.one_le_two_pow
    have hq2 : q ≤ 2048 := by rw [hq]; exact Nat.le_trans (Nat.pow_le_pow_right (show 0 < 2 by decide) hi) (by decide)
    have hq3 : i < 11 ↔ q ≤ 1024 := by
      rw [hq]
      constructor
      · intro h; exact Nat.le_trans (Nat.pow_le_pow_right (show 0 < 2 by decide) (show i ≤ 10 by omega)) (by decide)
      · intro h
        rcases Nat.lt_or_ge i 11 with x | x
        · exact x
        · have := Nat.pow_le_pow_right (show 0 < 2 by decide) x
          omega
    have hst := isTo_step a i
    rw [← hq] at hst
    clear hbk hbl hq
    by_cases hlt : q ≤ 1024
    · have t1 : decide ((q : Int) ≤ 1024) = true := decide_eq_true (by omega)
      have hi2 : i < 11 := hq3.2 hlt
      obtain ⟨c0, hc0⟩ : ∃ c0, isTo a i = c0 := ⟨_, rfl⟩
      rw [hc0] at hst ⊢
      obtain ⟨d0, hd0⟩ : ∃ d0, decide (q = a) = d0 := ⟨_, rfl⟩
      rw [hd0] at hst
      have t2 : ((q : Int) == (a : Int)) = d0 := by rw [← hd0, Bool.eq_iff_iff, beq_iff_eq, decide_eq_true_iff]; omega
      have HS := Lib.hid hst
      have HQ2 : Hid (q * 2 = 2 ^ (i + 1)) := Lib.hid (by rw [HQ.out, Nat.pow_succ])
      clear hst hc0 hd0 hq3 hlt
      cases c0 with
      | true =>
        clear t2
        go_wp2
        go_roundw
        case rel => exact ⟨i + 1, q * 2, by omega, HQ2.out, by rw [HS.out]; rfl, by go_num, K.out, B.out⟩
        case measure => simp [intOf]; omega
      | false =>
        go_wp2
        go_roundw
        case rel => exact ⟨i + 1, q * 2, by omega, HQ2.out, by rw [HS.out]; rfl, by go_num, K.out, B.out⟩
        case measure => simp [intOf]; omega
    · have t1 : decide ((q : Int) ≤ 1024) = false := decide_eq_false (by omega)
      obtain rfl : i = 11 := by omega
      rw [isTo_all]
      clear hst hq3 hlt
      obtain ⟨ok, hok⟩ : ∃ ok, isAl a = ok := ⟨_, rfl⟩
      rw [hok]
      have HOK := Lib.hid hok
      clear hok
      have f0 : ∀ j, wr.frozen? ⟨w.heap.size, j, none⟩ = false := fun j => K.out.frozen j
      have f0' := f0 0
      have f1' := f0 1
      have f2' := f0 2
      have f3' := f0 3
      have x0 : wr.cell? ⟨w.heap.size, 0, none⟩ = some (.int .i64 0) := K.out.cell 0
      have x1 : wr.cell? ⟨w.heap.size, 1, none⟩ = some (.int .i64 0) := K.out.cell 1
      have x2 : wr.cell? ⟨w.heap.size, 2, none⟩ = some (.int .i64 0) := K.out.cell 2
      have x3 : wr.cell? ⟨w.heap.size, 3, none⟩ = some (.int .u64 0) := K.out.cell 3
      clear f0
      cases ok with
      | false =>
        go_wp2
        have KB := put4 K.out (.int .i64 0) (.int .i64 0) (.int .i64 0) (.int .u64 0)
        have y0 := KB.cell 0
        have y1 := KB.cell 1
        have y2 := KB.cell 2
        have y3 := KB.cell 3
        refine bodyPost_ret (v := .tuple #[plV Pl.none, .int .i64 2]) ?_ rfl ⟨rfl, below4 B.out _ _ _ _ (Nat.le_refl _)⟩
        simp [results, Tryd.results21, go_sem, y0, y1, y2, y3, plV, Pl.none]
      | true =>
        have t3 : decide ((1048576 : Int) < (n : Int)) = true := decide_eq_true (by
          have := HB.out
          rw [HOK.out] at this
          simp at this
          omega)
        go_wp2
        have KB := put4 K.out (.int .i64 0) (.int .i64 0) (.int .i64 0) (.int .u64 0)
        have y0 := KB.cell 0
        have y1 := KB.cell 1
        have y2 := KB.cell 2
        have y3 := KB.cell 3
        refine bodyPost_ret (v := .tuple #[plV Pl.none, .int .i64 2]) ?_ rfl ⟨rfl, below4 B.out _ _ _ _ (Nat.le_refl _)⟩
        simp [results, Tryd.results21, go_sem, y0, y1, y2, y3, plV, Pl.none]
end Go.Proofs.YthblggnjfmgonaaDoor
