/- Lists (layer 7): the landed right: its contract. -/
import Derived.Test.YtmnnmgphiiedgaaListLs
namespace Go.Proofs.Ytmnnmgphiiedgaa
open Go.RowKit ListMath
set_option linter.unusedVariables false

/-- Chain, ahead of which the caller's own variable was made, or not yet. -/
theorem chain_drew (w : World) {p g lp o h : Nat} {L : List Nat} {n : Int} (hm : IsMem w p g L) (hl : LCell w lp o h n) (hh : h ≤ 18446744073709551615) (hn : 0 ≤ n ∧ n ≤ 1000000000) (V : Value) (hV : Value.tuple #[.agg (if (chainN L h n).isSome then lsC h (((chainN L h n).getD []).length : Int) else lsC 0 0), .int .i64 (if (chainN L h n).isSome then 0 else 3)] = V) :
    (Calls Try.prog 22 #[.pointer (some ⟨p, 0, none⟩), .int .u64 (h : Int), .int .i64 n] w.drew fun e w' => e = .returned V ∧ Below w.heap.size w w' ∧ w'.cell? ⟨lp, o, none⟩ = some (.int .u64 (h : Int)) ∧ w'.cell? ⟨lp, o + 1, none⟩ = some (.int .i64 n)) ∧
    (Calls Try.prog 22 #[.pointer (some ⟨p, 0, none⟩), .int .u64 (h : Int), .int .i64 n] (w.alloc (.cells #[.int .u64 0, .int .i64 0] 33)).drew fun e w' => e = .returned V ∧ Blk w' w.heap.size 33 #[.int .u64 0, .int .i64 0] ∧ Below w.heap.size w w' ∧ w'.cell? ⟨lp, o, none⟩ = some (.int .u64 (h : Int)) ∧ w'.cell? ⟨lp, o + 1, none⟩ = some (.int .i64 n)) := by
  subst hV
  have hlt := hl.lt
  have b1 : Below w.heap.size w w.drew := (Below.refl _ w).drew
  have b2 : Below w.heap.size w (w.alloc (.cells #[.int .u64 0, .int .i64 0] 33)).drew := ((Below.refl _ w).alloc (Nat.le_refl _) _).drew
  constructor
  · refine (chain_any p g L h n w.drew (hm.upd (updFalse_of b1) id id) hh (by omega) (by omega)).mono ?_
    rintro e w' ⟨rfl, hb⟩
    have hb' := b1.trans hb
    exact ⟨rfl, hb', (hb'.cell (p := ⟨lp, o, none⟩) hlt).trans hl.c0, (hb'.cell (p := ⟨lp, o + 1, none⟩) hlt).trans hl.c1⟩
  · refine (chain_any p g L h n _ (hm.upd (updFalse_of b2) id id) hh (by omega) (by omega)).mono ?_
    rintro e w' ⟨rfl, hb⟩
    have hb' := below_then b2 b2.size hb
    exact ⟨rfl, (Blk.new w _ _).drew.grew hb, hb', (hb'.cell (p := ⟨lp, o, none⟩) hlt).trans hl.c0, (hb'.cell (p := ⟨lp, o + 1, none⟩) hlt).trans hl.c1⟩
set_option maxHeartbeats 4000000 in
theorem right_any (w : World) {p g lp o h : Nat} {L : List Nat} {n : Int} (hm : IsMem w p g L) (hl : LCell w lp o h n) (hh : h ≤ 18446744073709551615) (hn : 0 ≤ n ∧ n ≤ 1000000000) :
    Calls Try.prog 32 #[.pointer (some ⟨lp, o, none⟩), .pointer (some ⟨p, 0, none⟩)] w fun e w' => e = .returned (.bool (allN ⟨L, h, n⟩).isSome) ∧ Below w.heap.size w w' := by
  have hlt := hl.lt
  have c0 : w.cell? ⟨lp, o, none⟩ = some (.int .u64 (h : Int)) := hl.c0
  have c1 : w.cell? ⟨lp, o + 1, none⟩ = some (.int .i64 n) := hl.c1
  obtain ⟨V, hV⟩ : ∃ V, Value.tuple #[.agg (if (chainN L h n).isSome then lsC h (((chainN L h n).getD []).length : Int) else lsC 0 0), .int .i64 (if (chainN L h n).isSome then 0 else 3)] = V := ⟨_, rfl⟩
  have hcd := chain_drew w hm hl hh hn V hV
  have hne : w.heap.size ≠ lp := Nat.ne_of_gt hlt
  have hne2 : lp ≠ w.heap.size := Nat.ne_of_lt hlt
  obtain ⟨n0, n1⟩ := hn
  have hal := allN_row (s := ⟨L, h, n⟩) n0
  simp only [] at hal
  obtain ⟨A, hA⟩ : ∃ A, allN ⟨L, h, n⟩ = A := ⟨_, rfl⟩
  obtain ⟨C, hC⟩ : ∃ C, chainN L h n = C := ⟨_, rfl⟩
  rw [hA, hC] at hal
  rw [hC] at hV
  rw [hA]
  clear hm hl hA hC
  cases C with
  | none =>
    have hA : A = none := hal
    subst hA
    simp only [Option.isSome_none, Bool.false_eq_true, if_false, lsC] at hV
    subst hV
    have HC1 := Lib.hid hcd.1; have HC2 := Lib.hid hcd.2
    clear hcd hal
    simp only [Option.isSome_none]
    go_enter Try.func32, Try.ntmps32
    go_wp2_with fail
    go_region_held3 (fun w' => w'.cell? ⟨lp, o, none⟩ = some (.int .u64 (h : Int)) ∧ w'.cell? ⟨lp, o + 1, none⟩ = some (.int .i64 n)) (first | go_keep | exact ⟨c0, c1⟩)
      (first
        | (go_at_call 22; (with_reducible refine HC1.out.mono ?_); rintro e w5 ⟨rfl, hb, k0, k1⟩; have B5 := Lib.hid hb; clear hb; have c0 := k0; have c1 := k1; clear k0 k1)
        | (go_at_call 22; (with_reducible refine HC2.out.mono ?_); rintro e w5 ⟨rfl, hk, hb, k0, k1⟩; have B5 := Lib.hid hb; have NB := Lib.hid hk; have a0 : w5.cell? ⟨w.heap.size, 0, none⟩ = some (.int .u64 0) := hk.cell 0; have a1 : w5.cell? ⟨w.heap.size, 1, none⟩ = some (.int .i64 0) := hk.cell 1; have g0 : w5.frozen? ⟨w.heap.size, 0, none⟩ = false := hk.frozen 0; have g1 : w5.frozen? ⟨w.heap.size, 1, none⟩ = false := hk.frozen 1; clear hb hk; have c0 := k0; have c1 := k1; clear k0 k1))
    · go_wp2_with fail
      go_quiet (fail)
      go_wp2
      go_ret
      exact ⟨rfl, below_drewN (B5.out.alloc B5.out.size _) _⟩
    · go_wp2_with fail
      go_quiet (fail)
      go_wp2
      go_ret
      exact ⟨rfl, below_drewN ((B5.out.setCell (p := ⟨w.heap.size, 0, none⟩) (Nat.le_refl _) _).setCell (p := ⟨w.heap.size, 1, none⟩) (Nat.le_refl _) _) _⟩
  | some r =>
    simp only [Option.isSome_some, if_true, Option.getD_some, lsC] at hV
    subst hV
    simp only [] at hal
    have HC1 := Lib.hid hcd.1; have HC2 := Lib.hid hcd.2
    obtain ⟨k, hk⟩ : ∃ k, r.length = k := ⟨_, rfl⟩
    rw [hk] at HC1 HC2 hal
    clear hcd hk
    by_cases hkn : (k : Int) = n
    · subst hkn
      rw [if_pos (by omega)] at hal
      subst hal
      simp only [Option.isSome_some]
      go_enter Try.func32, Try.ntmps32
      go_wp2_with fail
      go_region_held3 (fun w' => w'.cell? ⟨lp, o, none⟩ = some (.int .u64 (h : Int)) ∧ w'.cell? ⟨lp, o + 1, none⟩ = some (.int .i64 (k : Int))) (first | go_keep | exact ⟨c0, c1⟩)
        (first
          | (go_at_call 22; (with_reducible refine HC1.out.mono ?_); rintro e w5 ⟨rfl, hb, k0, k1⟩; have B5 := Lib.hid hb; clear hb; have c0 := k0; have c1 := k1; clear k0 k1)
          | (go_at_call 22; (with_reducible refine HC2.out.mono ?_); rintro e w5 ⟨rfl, hk, hb, k0, k1⟩; have B5 := Lib.hid hb; have NB := Lib.hid hk; have a0 : w5.cell? ⟨w.heap.size, 0, none⟩ = some (.int .u64 0) := hk.cell 0; have a1 : w5.cell? ⟨w.heap.size, 1, none⟩ = some (.int .i64 0) := hk.cell 1; have g0 : w5.frozen? ⟨w.heap.size, 0, none⟩ = false := hk.frozen 0; have g1 : w5.frozen? ⟨w.heap.size, 1, none⟩ = false := hk.frozen 1; clear hb hk; have c0 := k0; have c1 := k1; clear k0 k1))
      · rename_i hHeld1
        have x0 : (w5.alloc (.cells #[.int .u64 (h : Int), .int .i64 (k : Int)] 33)).cell? ⟨lp, o, none⟩ = some (.int .u64 (h : Int)) := hHeld1.1
        have x1 : (w5.alloc (.cells #[.int .u64 (h : Int), .int .i64 (k : Int)] 33)).cell? ⟨lp, o + 1, none⟩ = some (.int .i64 (k : Int)) := hHeld1.2
        have nb := Blk.new w5 33 #[.int .u64 (h : Int), .int .i64 (k : Int)]
        have y0 : (w5.alloc (.cells #[.int .u64 (h : Int), .int .i64 (k : Int)] 33)).cell? ⟨w5.heap.size, 0, none⟩ = some (.int .u64 (h : Int)) := nb.cell 0
        have y1 : (w5.alloc (.cells #[.int .u64 (h : Int), .int .i64 (k : Int)] 33)).cell? ⟨w5.heap.size, 1, none⟩ = some (.int .i64 (k : Int)) := nb.cell 1
        have hB : Below w.heap.size w (w5.alloc (.cells #[.int .u64 (h : Int), .int .i64 (k : Int)] 33)) := B5.out.alloc B5.out.size _
        obtain ⟨b, hb⟩ : ∃ b, w5.heap.size = b := ⟨_, rfl⟩
        obtain ⟨w6, hw6⟩ : ∃ x, w5.alloc (.cells #[.int .u64 (h : Int), .int .i64 (k : Int)] 33) = x := ⟨_, rfl⟩
        rw [hb] at y0 y1 ⊢
        rw [hw6] at x0 x1 y0 y1 hB ⊢
        have HB := Lib.hid hB
        clear nb hb hw6 hB c0 c1 B5 hHeld1
        go_wp2_with fail
        go_quiet (fail)
        go_wp2
        go_ret
        exact ⟨rfl, below_drewN HB.out _⟩
      · rename_i hHeld1
        have x0 : ((w5.setCell ⟨w.heap.size, 0, none⟩ (.int .u64 (h : Int))).setCell ⟨w.heap.size, 1, none⟩ (.int .i64 (k : Int))).cell? ⟨lp, o, none⟩ = some (.int .u64 (h : Int)) := hHeld1.1
        have x1 : ((w5.setCell ⟨w.heap.size, 0, none⟩ (.int .u64 (h : Int))).setCell ⟨w.heap.size, 1, none⟩ (.int .i64 (k : Int))).cell? ⟨lp, o + 1, none⟩ = some (.int .i64 (k : Int)) := hHeld1.2
        have nb := (NB.out.put 0 (.int .u64 (h : Int))).put 1 (.int .i64 (k : Int))
        have y0 : ((w5.setCell ⟨w.heap.size, 0, none⟩ (.int .u64 (h : Int))).setCell ⟨w.heap.size, 1, none⟩ (.int .i64 (k : Int))).cell? ⟨w.heap.size, 0, none⟩ = some (.int .u64 (h : Int)) := nb.cell 0
        have y1 : ((w5.setCell ⟨w.heap.size, 0, none⟩ (.int .u64 (h : Int))).setCell ⟨w.heap.size, 1, none⟩ (.int .i64 (k : Int))).cell? ⟨w.heap.size, 1, none⟩ = some (.int .i64 (k : Int)) := nb.cell 1
        have hB : Below w.heap.size w ((w5.setCell ⟨w.heap.size, 0, none⟩ (.int .u64 (h : Int))).setCell ⟨w.heap.size, 1, none⟩ (.int .i64 (k : Int))) := (B5.out.setCell (p := ⟨w.heap.size, 0, none⟩) (Nat.le_refl _) _).setCell (p := ⟨w.heap.size, 1, none⟩) (Nat.le_refl _) _
        obtain ⟨b, hb⟩ : ∃ b, w.heap.size = b := ⟨_, rfl⟩
        obtain ⟨w6, hw6⟩ : ∃ x, (w5.setCell ⟨w.heap.size, 0, none⟩ (.int .u64 (h : Int))).setCell ⟨w.heap.size, 1, none⟩ (.int .i64 (k : Int)) = x := ⟨_, rfl⟩
        rw [hw6] at x0 x1 y0 y1 hB ⊢
        have HB := Lib.hid hB
        clear nb hw6 hB c0 c1 B5 hHeld1 a0 a1 g0 g1 NB hb b
        go_wp2_with fail
        go_quiet (fail)
        go_wp2
        go_ret
        exact ⟨rfl, below_drewN HB.out _⟩
    · rw [if_neg (by omega)] at hal
      subst hal
      simp only [Option.isSome_none]
      go_enter Try.func32, Try.ntmps32
      go_wp2_with fail
      go_region_held3 (fun w' => w'.cell? ⟨lp, o, none⟩ = some (.int .u64 (h : Int)) ∧ w'.cell? ⟨lp, o + 1, none⟩ = some (.int .i64 n)) (first | go_keep | exact ⟨c0, c1⟩)
        (first
          | (go_at_call 22; (with_reducible refine HC1.out.mono ?_); rintro e w5 ⟨rfl, hb, k0, k1⟩; have B5 := Lib.hid hb; clear hb; have c0 := k0; have c1 := k1; clear k0 k1)
          | (go_at_call 22; (with_reducible refine HC2.out.mono ?_); rintro e w5 ⟨rfl, hk, hb, k0, k1⟩; have B5 := Lib.hid hb; have NB := Lib.hid hk; have a0 : w5.cell? ⟨w.heap.size, 0, none⟩ = some (.int .u64 0) := hk.cell 0; have a1 : w5.cell? ⟨w.heap.size, 1, none⟩ = some (.int .i64 0) := hk.cell 1; have g0 : w5.frozen? ⟨w.heap.size, 0, none⟩ = false := hk.frozen 0; have g1 : w5.frozen? ⟨w.heap.size, 1, none⟩ = false := hk.frozen 1; clear hb hk; have c0 := k0; have c1 := k1; clear k0 k1))
      · rename_i hHeld1
        have x0 : (w5.alloc (.cells #[.int .u64 (h : Int), .int .i64 (k : Int)] 33)).cell? ⟨lp, o, none⟩ = some (.int .u64 (h : Int)) := hHeld1.1
        have x1 : (w5.alloc (.cells #[.int .u64 (h : Int), .int .i64 (k : Int)] 33)).cell? ⟨lp, o + 1, none⟩ = some (.int .i64 n) := hHeld1.2
        have nb := Blk.new w5 33 #[.int .u64 (h : Int), .int .i64 (k : Int)]
        have y0 : (w5.alloc (.cells #[.int .u64 (h : Int), .int .i64 (k : Int)] 33)).cell? ⟨w5.heap.size, 0, none⟩ = some (.int .u64 (h : Int)) := nb.cell 0
        have y1 : (w5.alloc (.cells #[.int .u64 (h : Int), .int .i64 (k : Int)] 33)).cell? ⟨w5.heap.size, 1, none⟩ = some (.int .i64 (k : Int)) := nb.cell 1
        have hB : Below w.heap.size w (w5.alloc (.cells #[.int .u64 (h : Int), .int .i64 (k : Int)] 33)) := B5.out.alloc B5.out.size _
        obtain ⟨b, hb⟩ : ∃ b, w5.heap.size = b := ⟨_, rfl⟩
        obtain ⟨w6, hw6⟩ : ∃ x, w5.alloc (.cells #[.int .u64 (h : Int), .int .i64 (k : Int)] 33) = x := ⟨_, rfl⟩
        rw [hb] at y0 y1 ⊢
        rw [hw6] at x0 x1 y0 y1 hB ⊢
        have HB := Lib.hid hB
        clear nb hb hw6 hB c0 c1 B5 hHeld1
        go_wp2_with fail
        go_quiet (fail)
        go_wp2
        go_ret
        exact ⟨rfl, below_drewN HB.out _⟩
      · rename_i hHeld1
        have x0 : ((w5.setCell ⟨w.heap.size, 0, none⟩ (.int .u64 (h : Int))).setCell ⟨w.heap.size, 1, none⟩ (.int .i64 (k : Int))).cell? ⟨lp, o, none⟩ = some (.int .u64 (h : Int)) := hHeld1.1
        have x1 : ((w5.setCell ⟨w.heap.size, 0, none⟩ (.int .u64 (h : Int))).setCell ⟨w.heap.size, 1, none⟩ (.int .i64 (k : Int))).cell? ⟨lp, o + 1, none⟩ = some (.int .i64 n) := hHeld1.2
        have nb := (NB.out.put 0 (.int .u64 (h : Int))).put 1 (.int .i64 (k : Int))
        have y0 : ((w5.setCell ⟨w.heap.size, 0, none⟩ (.int .u64 (h : Int))).setCell ⟨w.heap.size, 1, none⟩ (.int .i64 (k : Int))).cell? ⟨w.heap.size, 0, none⟩ = some (.int .u64 (h : Int)) := nb.cell 0
        have y1 : ((w5.setCell ⟨w.heap.size, 0, none⟩ (.int .u64 (h : Int))).setCell ⟨w.heap.size, 1, none⟩ (.int .i64 (k : Int))).cell? ⟨w.heap.size, 1, none⟩ = some (.int .i64 (k : Int)) := nb.cell 1
        have hB : Below w.heap.size w ((w5.setCell ⟨w.heap.size, 0, none⟩ (.int .u64 (h : Int))).setCell ⟨w.heap.size, 1, none⟩ (.int .i64 (k : Int))) := (B5.out.setCell (p := ⟨w.heap.size, 0, none⟩) (Nat.le_refl _) _).setCell (p := ⟨w.heap.size, 1, none⟩) (Nat.le_refl _) _
        obtain ⟨b, hb⟩ : ∃ b, w.heap.size = b := ⟨_, rfl⟩
        obtain ⟨w6, hw6⟩ : ∃ x, (w5.setCell ⟨w.heap.size, 0, none⟩ (.int .u64 (h : Int))).setCell ⟨w.heap.size, 1, none⟩ (.int .i64 (k : Int)) = x := ⟨_, rfl⟩
        rw [hw6] at x0 x1 y0 y1 hB ⊢
        have HB := Lib.hid hB
        clear nb hw6 hB c0 c1 B5 hHeld1 a0 a1 g0 g1 NB hb b
        go_wp2_with fail
        go_quiet (fail)
        go_wp2
        go_ret
        exact ⟨rfl, below_drewN HB.out _⟩
end Go.Proofs.Ytmnnmgphiiedgaa
