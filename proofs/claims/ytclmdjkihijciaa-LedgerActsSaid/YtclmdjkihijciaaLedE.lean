/- The landed ledger: whether a block may be. -/
import Derived.Test.YtclmdjkihijciaaLedD
namespace Go.Proofs.Ytclmdjkihijciaa
open Go.RowKit LedMath
set_option linter.unusedVariables false

def sumR (a t : Nat) : Nat × Nat := if a ≤ 1099511627776 ∧ a + t ≤ 1099511627776 then (a + t, 0) else (0, 3)
def SumS (w : World) (a t : Nat) (v i : Value) (wr : World) : Prop :=
  wr = w ∧ ((v = .int .u64 0 ∧ i = .int .i64 0) ∨ (v = .int .u64 (a : Int) ∧ i = .int .i64 1 ∧ a ≤ 1099511627776) ∨ (v = .int .u64 ((a : Int) + (t : Int)) ∧ i = .int .i64 2 ∧ a + t ≤ 1099511627776))
set_option maxHeartbeats 1000000 in
theorem code_sum (w : World) {b a t : Nat} (ha : U64B a) (ht : U64B t) (c0 : w.cell? ⟨b, 0, none⟩ = some (.int .u64 (a : Int))) (c1 : w.cell? ⟨b, 1, none⟩ = some (.int .u64 (t : Int))) :
    Calls Try.prog 43 #[.slice (some ⟨b, 0, none⟩) 2 2] w fun r w' => r = .returned (.tuple #[.int .u64 ((sumR a t).1 : Int), .int .i64 ((sumR a t).2 : Int)]) ∧ w' = w := by
  have I0 := Lib.hid (show SumS w a t (.int .u64 0) (.int .i64 0) w from ⟨rfl, .inl ⟨rfl, rfl⟩⟩)
  go_enter Try.func43, Try.ntmps43
  go_wp2
  go_loopw [4, 9] (fun v i wr => SumS w a t v i wr) (fun _ i _ => 2 - (intOf i).toNat)
  case atStart => exact I0.out
  case round =>
    clear I0
    obtain ⟨rfl, ⟨rfl, rfl⟩ | ⟨rfl, rfl, h1⟩ | ⟨rfl, rfl, h1⟩⟩ := hrel
    · by_cases hx : a ≤ 1099511627776
      · have t1 : decide ((1099511627776 : Int) < (a : Int)) = false := decide_eq_false (by omega)
        go_wp2_with fail
        go_roundw
        case rel => exact ⟨rfl, .inr (.inl ⟨by simp, rfl, hx⟩)⟩
        case measure => simp [intOf]
      · have t1 : decide ((1099511627776 : Int) < (a : Int)) = true := decide_eq_true (by omega)
        have E := Lib.hid (show sumR a t = (0, 3) from if_neg (by omega))
        go_wp2_with fail
        go_ret2
        exact ⟨by rw [E.out]; rfl, rfl⟩
    · have w1 : IntKind.u64.wrap (1099511627776 - (a : Int)) = 1099511627776 - (a : Int) := u64_in _ ⟨by omega, by omega⟩
      by_cases hx : a + t ≤ 1099511627776
      · have t1 : decide (1099511627776 - (a : Int) < (t : Int)) = false := decide_eq_false (by omega)
        have w2 : IntKind.u64.wrap ((a : Int) + (t : Int)) = (a : Int) + (t : Int) := u64_in _ ⟨by omega, by omega⟩
        go_wp2_with fail
        go_roundw
        case rel => exact ⟨rfl, .inr (.inr ⟨rfl, rfl, hx⟩)⟩
        case measure => simp [intOf]
      · have t1 : decide (1099511627776 - (a : Int) < (t : Int)) = true := decide_eq_true (by omega)
        have E := Lib.hid (show sumR a t = (0, 3) from if_neg (by omega))
        go_wp2_with fail
        go_ret2
        exact ⟨by rw [E.out]; rfl, rfl⟩
    · have E := Lib.hid (show sumR a t = (a + t, 0) from if_pos (by omega))
      go_wp2_with fail
      go_ret2
      exact ⟨by rw [E.out]; simp only [Int.natCast_add]; rfl, rfl⟩
/-- A block by value, boxed at a call's begin. -/
structure BoxB (w : World) (q a n g : Nat) (w' : World) : Prop where
  b : Blk w' q 35 #[.int .u64 (a : Int), .int .u64 (n : Int), .int .u64 (g : Int)]
  below : Below w.heap.size w w'
theorem BoxB.start (w : World) (a n g : Nat) : BoxB w w.heap.size a n g (w.alloc (.cells #[.int .u64 (a : Int), .int .u64 (n : Int), .int .u64 (g : Int)] 35)) := ⟨Blk.new w _ _, (Below.refl _ w).alloc (Nat.le_refl _) _⟩
theorem BoxB.drew {w w' : World} {q a n g : Nat} (h : BoxB w q a n g w') : BoxB w q a n g w'.drew := ⟨h.b, h.below.drew⟩
theorem BoxB.grew {w w' w2 : World} {q a n g : Nat} (h : BoxB w q a n g w') (hb : Below w'.heap.size w' w2) : BoxB w q a n g w2 := ⟨h.b.grew hb, below_then h.below h.below.size hb⟩
theorem BoxB.c {w w' : World} {q a n g : Nat} (h : BoxB w q a n g w') : w'.cell? ⟨q, 0, none⟩ = some (.int .u64 (a : Int)) ∧ w'.cell? ⟨q, 1, none⟩ = some (.int .u64 (n : Int)) ∧ w'.cell? ⟨q, 2, none⟩ = some (.int .u64 (g : Int)) :=
  ⟨h.b.cell 0, h.b.cell 1, h.b.cell 2⟩
set_option maxHeartbeats 1000000 in
theorem code_mayBe (w : World) {a n g : Nat} (ha : U64B a) (hn : U64B n) (hg : U64B g) : Calls Try.prog 26 #[blkV a n g] w fun r w' => r = .returned (.bool (mayE a n g)) ∧ Below w.heap.size w w' := by
  obtain ⟨q, hq⟩ : ∃ q, w.heap.size = q := ⟨_, rfl⟩
  have ST := BoxB.start w a n g
  rw [hq] at ST
  have HQ := Lib.hid hq
  obtain ⟨W0, hW⟩ : ∃ W0, w.alloc (.cells #[.int .u64 (a : Int), .int .u64 (n : Int), .int .u64 (g : Int)] 35) = W0 := ⟨_, rfl⟩
  rw [hW] at ST
  have ST := Lib.hid ST
  obtain ⟨c0, c1, c2⟩ := ST.out.c
  obtain ⟨t, ht⟩ : ∃ t : Nat, max n 1 = t := ⟨_, rfl⟩
  have htb : U64B t := by unfold U64B at *; omega
  have HT : Hid (∀ w', BoxB w q a n g w' → Calls Try.prog 27 #[.agg #[.int .u64 (a : Int), .int .u64 (n : Int), .int .u64 (g : Int)]] w' fun r w2 => r = .returned (.int .u64 (t : Int)) ∧ BoxB w q a n g w2) := Lib.hid fun w' k => by
    have := code_taken w' a n g
    rw [ht] at this
    exact this.mono fun r w2 h => ⟨h.1, k.grew h.2⟩
  obtain ⟨s, er, hs⟩ : ∃ s er : Nat, sumR a t = (s, er) := ⟨_, _, rfl⟩
  have HS : Hid (∀ w' p, BoxB w q a n g w' → p = w'.heap.size → Calls Try.prog 43 #[.slice (some ⟨p, 0, none⟩) 2 2] (w'.alloc (.cells #[.int .u64 (a : Int), .int .u64 (t : Int)] 33)) fun r w2 => r = .returned (.tuple #[.int .u64 (s : Int), .int .i64 (er : Int)]) ∧ BoxB w q a n g w2) := Lib.hid fun w' p k hp => by
    subst hp
    have hb := Blk.new w' 33 #[.int .u64 (a : Int), .int .u64 (t : Int)]
    have := code_sum (w'.alloc (.cells #[.int .u64 (a : Int), .int .u64 (t : Int)] 33)) (b := w'.heap.size) ha htb (hb.cell 0) (hb.cell 1)
    rw [hs] at this
    exact this.mono fun r w2 h => ⟨h.1, by rw [h.2]; exact k.grew ((Below.refl _ w').alloc (Nat.le_refl _) _)⟩
  have P2 := Lib.hid (fun w => pow2_any (g : Int) (by omega) (by unfold U64B at hg; omega) w)
  rw [Int.toNat_natCast] at P2
  have MS : Hid (mayE a n g = (decide (a + t ≤ 1048576) && CalcMath.isP2 g && decide (g ≤ 1024) && decide (a % g = 0))) := Lib.hid (by unfold mayE; rw [ht])
  have SS : Hid ((er = 0 ∧ s = a + t) ∨ (er = 3 ∧ 1048576 < a + t)) := Lib.hid (by
    unfold sumR at hs
    split at hs
    · injection hs with h1 h2; exact .inl ⟨h2.symm, h1.symm⟩
    · rename_i hh; injection hs with h1 h2; exact .inr ⟨h2.symm, by omega⟩)
  have HW := Lib.hid hW
  clear ht hs ha hn hg htb
  unfold blkV
  go_enter Try.func26, Try.ntmps26
  go_wp2_with fail
  go_region_held3 (fun w' => w'.cell? ⟨q, 0, none⟩ = some (.int .u64 (a : Int)) ∧ w'.cell? ⟨q, 1, none⟩ = some (.int .u64 (n : Int)) ∧ w'.cell? ⟨q, 2, none⟩ = some (.int .u64 (g : Int))) (first | go_keep | exact ⟨c0, c1, c2⟩)
    (first
      | (go_at_call 27; (first | (with_reducible refine (HT.out _ ST.out.drew).mono ?_) | (with_reducible refine (HT.out _ ST.out).mono ?_)); rintro r w5 ⟨rfl, hst⟩; obtain ⟨c0, c1, c2⟩ := hst.c; have ST := Lib.hid hst; clear hst)
      | (go_at_call 43; (refine (HS.out _ _ ST.out rfl).mono ?_); rintro r w6 ⟨rfl, hst⟩; obtain ⟨c0, c1, c2⟩ := hst.c; have ST := Lib.hid hst; clear hst))
  clear HT HS HW hW
  rcases SS.out with ⟨rfl, rfl⟩ | ⟨rfl, hbig⟩
  · by_cases h1 : a + t ≤ 1048576
    · have t1 : decide (((a + t : Nat) : Int) ≤ (1048576 : Int)) = true := decide_eq_true (by omega)
      have t1' : decide ((a : Int) + (t : Int) ≤ (1048576 : Int)) = true := decide_eq_true (by omega)
      have M1 := Lib.hid (show mayE a n g = (CalcMath.isP2 g && decide (g ≤ 1024) && decide (a % g = 0)) by rw [MS.out, decide_eq_true h1, Bool.true_and])
      clear h1 MS SS
      obtain ⟨p, hp⟩ : ∃ p, CalcMath.isP2 g = p := ⟨_, rfl⟩
      rw [hp] at P2
      have HP := Lib.hid hp
      clear hp
      cases p
      · have FIN := Lib.hid (show mayE a n g = false by rw [M1.out, HP.out]; rfl)
        go_wp2_with fail
        refine (P2.out _).mono ?_
        rintro r w7 ⟨rfl, rfl⟩
        go_wp2_with fail
        go_ret
        exact ⟨by rw [FIN.out]; rfl, (by first | exact ST.out.below | (rw [← HQ.out]; exact ST.out.below))⟩
      · have q0 : ¬ ((g : Int) = 0) := by
          intro h
          have h0 : g = 0 := by omega
          have := HP.out
          rw [h0] at this
          revert this
          decide
        obtain ⟨m, hm⟩ : ∃ m : Nat, a % g = m := ⟨_, rfl⟩
        have d1 : (a : Int) % (g : Int) = (m : Int) := by rw [← hm]; exact (Int.natCast_emod a g).symm
        have d2 : Int.tmod (a : Int) (g : Int) = (m : Int) := by rw [← hm]; exact (Int.ofNat_tmod _ _).symm
        by_cases h2 : g ≤ 1024
        · have t2 : decide ((g : Int) ≤ (1024 : Int)) = true := decide_eq_true (by omega)
          have FIN := Lib.hid (show mayE a n g = decide (m = 0) by rw [M1.out, HP.out, decide_eq_true h2, hm]; rfl)
          obtain ⟨z, hz⟩ : ∃ z, ((m : Int) == 0) = z := ⟨_, rfl⟩
          have HZ := Lib.hid (show decide (m = 0) = z by rw [← hz, Bool.eq_iff_iff]; simp)
          clear h2 hm
          go_wp2_with fail
          refine (P2.out _).mono ?_
          rintro r w7 ⟨rfl, rfl⟩
          go_wp2_with fail
          go_ret
          exact ⟨by rw [FIN.out, HZ.out]; rfl, (by first | exact ST.out.below | (rw [← HQ.out]; exact ST.out.below))⟩
        · have t2 : decide ((g : Int) ≤ (1024 : Int)) = false := decide_eq_false (by omega)
          have FIN := Lib.hid (show mayE a n g = false by rw [M1.out, HP.out, decide_eq_false h2]; rfl)
          clear h2 hm d1 d2
          go_wp2_with fail
          refine (P2.out _).mono ?_
          rintro r w7 ⟨rfl, rfl⟩
          go_wp2_with fail
          go_ret
          exact ⟨by rw [FIN.out]; rfl, (by first | exact ST.out.below | (rw [← HQ.out]; exact ST.out.below))⟩
    · have t1 : decide (((a + t : Nat) : Int) ≤ (1048576 : Int)) = false := decide_eq_false (by omega)
      have t1' : decide ((a : Int) + (t : Int) ≤ (1048576 : Int)) = false := decide_eq_false (by omega)
      have FIN := Lib.hid (show mayE a n g = false by rw [MS.out, decide_eq_false h1, Bool.false_and, Bool.false_and, Bool.false_and])
      clear h1
      go_wp2_with fail
      go_ret
      exact ⟨by rw [FIN.out]; rfl, (by first | exact ST.out.below | (rw [← HQ.out]; exact ST.out.below))⟩
  · have FIN := Lib.hid (show mayE a n g = false by rw [MS.out, decide_eq_false (by omega), Bool.false_and, Bool.false_and, Bool.false_and])
    clear hbig
    go_wp2_with fail
    go_ret
    exact ⟨by rw [FIN.out]; rfl, (by first | exact ST.out.below | (rw [← HQ.out]; exact ST.out.below))⟩
end Go.Proofs.Ytclmdjkihijciaa
