/- The landed ledger: In and Free. -/
import Derived.Test.YtclmdjkihijciaaLedC
namespace Go.Proofs.Ytclmdjkihijciaa
open Go.RowKit LedMath
set_option linter.unusedVariables false

theorem told_as {w : World} {v : Value} {o : Option En} {a n g er : Nat} (h : Calls Try.prog 32 #[v] w fun r w' => r = .returned (toldV (toldE o)) ∧ Below w.heap.size w w') (e : toldE o = ((a, n, g), er)) :
    Calls Try.prog 32 #[v] w fun r w' => r = .returned (.tuple #[.agg #[.int .u64 (a : Int), .int .u64 (n : Int), .int .u64 (g : Int)], .int .i64 (er : Int)]) ∧ Below w.heap.size w w' := by
  rw [e] at h; exact h
set_option maxHeartbeats 1000000 in
/-- In: the block that an address is in, if it isn't held. -/
theorem In_any (w : World) {lb x : Nat} {S : Nat → Prop} {L : List En} (h : Led w lb S L) : Calls Try.prog 21 #[ptrV lb 0, .int .u64 (x : Int)] w fun r w' => r = .returned (toldV (toldE (inL L x))) ∧ Below w.heap.size w w' := by
  have R0 := Lib.hid (ResB.start w)
  obtain ⟨A, hA⟩ : ∃ A, toldE (inL L x) = A := ⟨_, rfl⟩
  obtain ⟨⟨a, n, g⟩, er⟩ := A
  rw [hA]
  have HA := Lib.hid hA
  rcases h with ⟨h, rfl⟩ | ⟨rb, V, h⟩
  · have H1 := Lib.hid (fun ob => last_nil (w.alloc ob) (x := x) (h.upd (updFalse_of ((Below.refl _ w).alloc (Nat.le_refl _) ob)) fun _ _ => id))
    clear h hA
    go_enter Try.func21, Try.ntmps21
    go_wp2_with fail
    refine (H1.out _).mono ?_
    rintro r w1 ⟨rfl, rfl⟩
    have R1 := R0
    clear R0
    have T1' := Lib.hid (fun w => told_as (a := a) (n := n) (g := g) (er := er) (code_told_nil w) HA.out)
    go_wp2_with fail
    refine (T1'.out _).mono ?_
    rintro r w2 ⟨rfl, hb⟩
    have R2 := Lib.hid (R1.out.grew hb)
    obtain ⟨q, hq⟩ : ∃ q, w.heap.size = q := ⟨_, rfl⟩
    have HQ := Lib.hid hq
    rw [hq] at R2 ⊢
    obtain ⟨c0, c1, c2, f0, f1, f2⟩ := R2.out.cells
    clear hb hq R1
    go_wp2_with fail
    obtain ⟨hB, hb⟩ := R2.out.stored (.int .u64 (a : Int)) (.int .u64 (n : Int)) (.int .u64 (g : Int))
    exact bodyPost_ret (results_ct rfl _ rfl rfl (loadBlk hB)) rfl ⟨rfl, hb⟩
  · have H1 := Lib.hid (fun ob => last_row (w.alloc ob) (x := x) (h.below ((Below.refl _ w).alloc (Nat.le_refl _) ob)))
    have H := Lib.hid h
    clear h hA
    go_enter Try.func21, Try.ntmps21
    go_wp2_with fail
    refine (H1.out _).mono ?_
    rintro r w1 ⟨hb1, hr⟩
    have R1 := Lib.hid (R0.out.grew hb1)
    clear hb1 R0
    rcases hr with ⟨rfl, hn⟩ | ⟨e, b, o, rfl, hl, hs⟩
    · have T1 := Lib.hid (told_as (a := a) (n := n) (g := g) (er := er) (code_told_nil w1) (by rw [← none_in hn]; exact HA.out))
      clear hn
      go_wp2_with fail
      refine T1.out.mono ?_
      rintro r w2 ⟨rfl, hb⟩
      have R2 := Lib.hid (R1.out.grew hb)
      obtain ⟨q, hq⟩ : ∃ q, w.heap.size = q := ⟨_, rfl⟩
      have HQ := Lib.hid hq
      rw [hq] at R2 ⊢
      obtain ⟨c0, c1, c2, f0, f1, f2⟩ := R2.out.cells
      clear hb hq R1
      go_wp2_with fail
      obtain ⟨hB, hb⟩ := R2.out.stored (.int .u64 (a : Int)) (.int .u64 (n : Int)) (.int .u64 (g : Int))
      exact bodyPost_ret (results_ct rfl _ rfl rfl (loadBlk hB)) rfl ⟨rfl, hb⟩
    · have K := Lib.hid (hs.cells (H.out.below R1.out.below))
      have HE := Lib.hid (code_end w1 K.out (H.out.good.lt hs.mem))
      have AI := Lib.hid (hl.in H.out.good)
      clear hl hs
      go_wp2_with fail
      refine HE.out.mono ?_
      rintro r w3 ⟨rfl, hb3⟩
      have B3 := Lib.hid hb3
      have R3 := Lib.hid (R1.out.grew hb3)
      clear hb3 R1
      have R1 := R3
      clear R3
      by_cases hz : e.z ≤ x
      · have t1 : decide (e.z ≤ x) = true := decide_eq_true hz
        have T1 := Lib.hid (told_as (a := a) (n := n) (g := g) (er := er) (code_told_nil w3) (by have := AI.out; rw [if_pos hz] at this; rw [← this]; exact HA.out))
        clear hz
        go_wp2_with fail
        refine T1.out.mono ?_
        rintro r w2 ⟨rfl, hb⟩
        have R2 := Lib.hid (R1.out.grew hb)
        obtain ⟨q, hq⟩ : ∃ q, w.heap.size = q := ⟨_, rfl⟩
        have HQ := Lib.hid hq
        rw [hq] at R2 ⊢
        obtain ⟨c0, c1, c2, f0, f1, f2⟩ := R2.out.cells
        clear hb hq R1
        go_wp2_with fail
        obtain ⟨hB, hb⟩ := R2.out.stored (.int .u64 (a : Int)) (.int .u64 (n : Int)) (.int .u64 (g : Int))
        exact bodyPost_ret (results_ct rfl _ rfl rfl (loadBlk hB)) rfl ⟨rfl, hb⟩
      · have t1 : decide (e.z ≤ x) = false := decide_eq_false hz
        have T1 := Lib.hid (told_as (a := a) (n := n) (g := g) (er := er) (code_told w3 (K.out.below B3.out)) (by have := AI.out; rw [if_neg hz] at this; rw [← this]; exact HA.out))
        clear hz
        go_wp2_with fail
        refine T1.out.mono ?_
        rintro r w2 ⟨rfl, hb⟩
        have R2 := Lib.hid (R1.out.grew hb)
        obtain ⟨q, hq⟩ : ∃ q, w.heap.size = q := ⟨_, rfl⟩
        have HQ := Lib.hid hq
        rw [hq] at R2 ⊢
        obtain ⟨c0, c1, c2, f0, f1, f2⟩ := R2.out.cells
        clear hb hq R1
        go_wp2_with fail
        obtain ⟨hB, hb⟩ := R2.out.stored (.int .u64 (a : Int)) (.int .u64 (n : Int)) (.int .u64 (g : Int))
        exact bodyPost_ret (results_ct rfl _ rfl rfl (loadBlk hB)) rfl ⟨rfl, hb⟩

set_option maxHeartbeats 1000000 in
/-- Free: whether no block takes one of n bytes from an address on. -/
theorem Free_any (w : World) {lb a n : Nat} {S : Nat → Prop} {L : List En} (h : Led w lb S L) (ha : U64B a) (hn : U64B n) : Calls Try.prog 23 #[ptrV lb 0, .int .u64 (a : Int), .int .u64 (n : Int)] w fun r w' => r = .returned (.bool (freeL L a n)) ∧ Below w.heap.size w w' := by
  by_cases h0 : n = 0
  · subst h0
    have e : freeL L a 0 = true := by simp [freeL]
    rw [e]
    clear h
    go_enter Try.func23, Try.ntmps23
    go_wp2
    go_ret
    exact ⟨rfl, Below.refl _ _⟩
  · have q0 : ¬ ((n : Int) = 0) := by omega
    by_cases hw : a + n ≤ 18446744073709551616
    · obtain ⟨t, ht⟩ : ∃ t, a + n - 1 = t := ⟨_, rfl⟩
      have e : freeL L a n = !metL L a n := by simp [freeL, h0, hw]
      rw [e]
      have t1 : decide (t < a) = false := decide_eq_false (by omega)
      have w1 : IntKind.u64.wrap (IntKind.u64.wrap ((a : Int) + (n : Int)) - 1) = (t : Int) := by rw [IntKind.wrap_u64, IntKind.wrap_u64]; omega
      obtain ⟨s, hs1⟩ : ∃ s, IntKind.u64.wrap ((a : Int) + (n : Int)) = s := ⟨_, rfl⟩
      rw [hs1] at w1
      have M1 := Lib.hid (fun (en : En) (g : GoodL L) (l : LastL L t en) => LastL.free (L := L) g (a := a) (n := n) (by omega) (by rw [ht]; exact l))
      have M2 := Lib.hid (fun (l : ∀ f ∈ L, t < f.a) => none_met (L := L) (a := a) (n := n) (by omega) (by rw [ht]; exact l))
      clear e ht hw h0
      rcases h with ⟨h, rfl⟩ | ⟨rb, V, h⟩
      · have H1 := Lib.hid (last_nil w (x := t) h)
        have e : metL [] a n = false := rfl
        rw [e]
        clear h
        go_enter Try.func23, Try.ntmps23
        go_wp2_with fail
        refine H1.out.mono ?_
        rintro r w2 ⟨rfl, rfl⟩
        go_wp2_with fail
        go_ret
        exact ⟨rfl, Below.refl _ _⟩
      · have H1 := Lib.hid (last_row w (x := t) h)
        have H := Lib.hid h
        obtain ⟨z, hz⟩ : ∃ z, (!metL L a n) = z := ⟨_, rfl⟩
        rw [hz]
        have HZ := Lib.hid hz
        clear h hz
        go_enter Try.func23, Try.ntmps23
        go_wp2_with fail
        refine H1.out.mono ?_
        rintro r w2 ⟨hb2, hr⟩
        have B2 := Lib.hid hb2
        clear hb2
        rcases hr with ⟨rfl, hn⟩ | ⟨e, b, o, rfl, hl, hs⟩
        · have ez : z = true := by rw [← HZ.out, M2.out hn]; rfl
          subst ez
          clear hn
          go_wp2_with fail
          go_ret
          exact ⟨rfl, B2.out⟩
        · have HE := Lib.hid (code_end w2 (hs.cells (H.out.below B2.out)) (H.out.good.lt hs.mem))
          have ez : decide (e.z ≤ a) = z := by rw [← HZ.out, M1.out e H.out.good hl]; simp
          clear hl hs
          go_wp2_with fail
          refine HE.out.mono ?_
          rintro r w3 ⟨rfl, hb3⟩
          have B3 := Lib.hid (B2.out.trans (hb3.mono B2.out.size))
          clear hb3
          go_wp2_with fail
          go_ret
          exact ⟨rfl, B3.out⟩
    · have e : freeL L a n = false := by simp [freeL, h0, hw]
      rw [e]
      obtain ⟨t, ht⟩ : ∃ t : Nat, a + n - 1 - 18446744073709551616 = t := ⟨_, rfl⟩
      have t1 : decide (t < a) = true := decide_eq_true (by omega)
      have w1 : IntKind.u64.wrap (IntKind.u64.wrap ((a : Int) + (n : Int)) - 1) = (t : Int) := by rw [IntKind.wrap_u64, IntKind.wrap_u64]; omega
      obtain ⟨s, hs1⟩ : ∃ s, IntKind.u64.wrap ((a : Int) + (n : Int)) = s := ⟨_, rfl⟩
      rw [hs1] at w1
      clear e ht hw h0 h
      go_enter Try.func23, Try.ntmps23
      go_wp2_with fail
      go_ret
      exact ⟨rfl, Below.refl _ _⟩
end Go.Proofs.Ytclmdjkihijciaa
