/- The landed ledger: each, with one of the three. (Written by gen15.py.) -/
import Derived.Test.YtclmdjkihijciaaLedI
namespace Go.Proofs.Ytclmdjkihijciaa
open Go.RowKit LedMath
set_option linter.unusedVariables false

def DropS (w : World) (lb rb : Nat) (S : Nat → Prop) (L : List En) (xs : List Nat) (v : Value) (wr : World) : Prop :=
  ∃ j V M, v = .int .i64 ((j : Nat) : Int) ∧ j ≤ xs.length ∧ LedR wr lb rb V (fun k => S k ∨ w.heap.size ≤ k) M ∧ Upd S w wr ∧ eachE drop1 L xs = eachE drop1 M (xs.drop j)
set_option maxRecDepth 100000 in
set_option maxHeartbeats 2000000 in
theorem each_drop (w : World) {lb rb q : Nat} {V : Nat → Value} {S : Nat → Prop} {L : List En} {a : Option Addr} {n cap : Nat} {xs : List Nat} (h : LedR w lb rb V S L) (hx : Seq Elem.u64s w (.slice a n cap) xs) (hn : n ≤ 9223372036854775807) (hS : 0 < n → ∀ k, In (.slice a n cap) k → ¬ S k) (hq : w.cell? ⟨q, 0, none⟩ = some (ptrV lb 0)) (hqS : ¬ S q) :
    Calls Try.prog 30 #[ptrV lb 0, .slice a n cap, .func (.func 34) #[] #[ptrV q 0]] w fun r w' => r = .returned (.int .i64 ((eachE drop1 L xs).1 : Int)) ∧ ∃ V', LedR w' lb rb V' (fun k => S k ∨ w.heap.size ≤ k) (eachE drop1 L xs).2 ∧ Upd S w w' := by
  obtain rfl := hx.len
  obtain ⟨n, hN⟩ : ∃ n, xs.length = n := ⟨_, rfl⟩
  have HX := Lib.hid hx; have HS := Lib.hid hS; have HN := Lib.hid hN
  have QC := Lib.hid hq; have QS := Lib.hid hqS
  have I0 := Lib.hid (show DropS w lb rb S L xs (.int .i64 0) w from ⟨0, V, L, rfl, Nat.zero_le _, h.mono fun k _ hk => .inl hk, Upd.refl _ _, rfl⟩)
  rw [hN] at hn HX HS ⊢
  clear h hx hS hN hq hqS
  go_enter Try.func30, Try.ntmps30
  go_wp2
  go_loopw [15] (fun v wr => DropS w lb rb S L xs v wr) (fun v _ => n - (intOf v).toNat)
  case atStart => exact I0.out
  case round =>
    clear I0
    obtain ⟨j, V, M, rfl, hj, hr, hu, he⟩ := hrel
    have R := Lib.hid hr; have U := Lib.hid hu; have EE := Lib.hid he
    rw [HN.out] at hj
    clear hr hu he
    by_cases hjn : j < n
    · have t1 : decide (j < n) = true := decide_eq_true hjn
      have t1' : decide ((j : Int) < (n : Int)) = true := decide_eq_true (by omega)
      obtain ⟨x, hx⟩ : ∃ x, xs[j]? = some x := ⟨_, List.getElem?_eq_getElem (by rw [HN.out]; exact hjn)⟩
      obtain ⟨b, off, ea, hc⟩ := (HX.out.upd U.out (HS.out (by omega))).elem hx
      subst ea
      have c0 : wr.cell? ⟨b, off + j, none⟩ = some (.int .u64 (x : Int)) := by have := hc 0 _ rfl; rwa [show off + j * Elem.u64s.size + 0 = off + j by show off + j * 1 + 0 = off + j; omega] at this
      have hdrop : xs.drop j = x :: xs.drop (j + 1) := by
        obtain ⟨h1, h2⟩ := List.getElem?_eq_some_iff.1 hx
        rw [← h2]; exact List.drop_eq_getElem_cons h1
      have q1 : (0 : Int) ≤ (j : Int) := by omega
      have q2 : (j : Int) < (n : Int) := by omega
      have AT := Lib.hid (at_row wr (x := x) R.out)
      have ED := Lib.hid hdrop
      clear hc hx hdrop
      go_wp2_with fail
      refine AT.out.mono ?_
      rintro r w1 ⟨hb1, hr1⟩
      have R2 := Lib.hid (R.out.below hb1)
      have U2 := Lib.hid (U.out.step (updFalse_of hb1) fun k hk => hk.elim)
      clear hb1
      rcases hr1 with ⟨rfl, hnone⟩ | ⟨e, b', o', rfl, hsome, hsp⟩
      · have FIN := Lib.hid (show eachE drop1 L xs = (5, M) by rw [EE.out, ED.out]; unfold eachE; rw [show drop1 M x = (5, M) by unfold drop1; rw [hnone]]; rfl)
        clear hnone
        go_wp2_with fail
        go_ret
        exact ⟨by rw [FIN.out]; rfl, V, by rw [FIN.out]; exact R2.out, U2.out⟩
      · have hxe := (atL_some hsome).2
        have qc : w1.cell? ⟨q, 0, none⟩ = some (ptrV lb 0) := cell_upd QC.out U2.out QS.out
        have DO := Lib.hid (code_drop R2.out hsp qc)
        rw [hxe] at DO
        obtain ⟨er, M', hM⟩ : ∃ er M', drop1 M x = (er, M') := ⟨_, _, rfl⟩
        rw [hM] at DO
        have HM := Lib.hid hM
        clear hsome hsp hxe hM qc
        go_wp2_with fail
        refine DO.out.mono ?_
        rintro r w2 ⟨rfl, V', hr2, hu2⟩
        have R3 := Lib.hid (hr2.mono (T := fun k => S k ∨ w.heap.size ≤ k) fun k _ hk => by
          rcases hk with hk | hk
          · exact hk
          · exact .inr (Nat.le_trans U2.out.size hk))
        have U3 := Lib.hid (U2.out.step hu2 fun k hk => hk)
        clear hr2 hu2
        by_cases h0 : er = 0
        · subst h0
          have FIN := Lib.hid (show eachE drop1 L xs = eachE drop1 M' (xs.drop (j + 1)) by rw [EE.out, ED.out]; show (if (drop1 M x).1 = 0 then _ else _) = _; rw [HM.out]; rfl)
          go_wp2_with fail
          go_roundw
          case rel => exact ⟨j + 1, V', M', by go_num, by rw [HN.out]; omega, R3.out, U3.out, FIN.out⟩
          case measure => simp [intOf] <;> omega
        · have q3 : ¬ ((er : Int) = 0) := by omega
          have FIN := Lib.hid (show eachE drop1 L xs = (er, M') by rw [EE.out, ED.out]; show (if (drop1 M x).1 = 0 then _ else _) = _; rw [HM.out]; exact if_neg h0)
          clear h0
          go_wp2_with fail
          go_ret
          exact ⟨by rw [FIN.out]; rfl, V', by rw [FIN.out]; exact R3.out, U3.out⟩
    · obtain rfl : j = n := by omega
      have t1 : decide (j < j) = false := decide_eq_false hjn
      have t1' : decide ((j : Int) < (j : Int)) = false := decide_eq_false (by omega)
      have FIN := Lib.hid (show eachE drop1 L xs = (0, M) by rw [EE.out, List.drop_eq_nil_of_le (by rw [HN.out]; exact Nat.le_refl _)]; rfl)
      clear hjn
      go_wp2_with fail
      go_ret
      exact ⟨by rw [FIN.out]; rfl, V, by rw [FIN.out]; exact R.out, U.out⟩

def HoldS (w : World) (lb rb : Nat) (S : Nat → Prop) (L : List En) (xs : List Nat) (v : Value) (wr : World) : Prop :=
  ∃ j V M, v = .int .i64 ((j : Nat) : Int) ∧ j ≤ xs.length ∧ LedR wr lb rb V (fun k => S k ∨ w.heap.size ≤ k) M ∧ Upd S w wr ∧ eachE hold1 L xs = eachE hold1 M (xs.drop j)
set_option maxRecDepth 100000 in
set_option maxHeartbeats 2000000 in
theorem each_hold (w : World) {lb rb : Nat} {V : Nat → Value} {S : Nat → Prop} {L : List En} {a : Option Addr} {n cap : Nat} {xs : List Nat} (h : LedR w lb rb V S L) (hx : Seq Elem.u64s w (.slice a n cap) xs) (hn : n ≤ 9223372036854775807) (hS : 0 < n → ∀ k, In (.slice a n cap) k → ¬ S k) :
    Calls Try.prog 30 #[ptrV lb 0, .slice a n cap, .func (.func 31) #[] #[]] w fun r w' => r = .returned (.int .i64 ((eachE hold1 L xs).1 : Int)) ∧ ∃ V', LedR w' lb rb V' (fun k => S k ∨ w.heap.size ≤ k) (eachE hold1 L xs).2 ∧ Upd S w w' := by
  obtain rfl := hx.len
  obtain ⟨n, hN⟩ : ∃ n, xs.length = n := ⟨_, rfl⟩
  have HX := Lib.hid hx; have HS := Lib.hid hS; have HN := Lib.hid hN

  have I0 := Lib.hid (show HoldS w lb rb S L xs (.int .i64 0) w from ⟨0, V, L, rfl, Nat.zero_le _, h.mono fun k _ hk => .inl hk, Upd.refl _ _, rfl⟩)
  rw [hN] at hn HX HS ⊢
  clear h hx hS hN
  go_enter Try.func30, Try.ntmps30
  go_wp2
  go_loopw [15] (fun v wr => HoldS w lb rb S L xs v wr) (fun v _ => n - (intOf v).toNat)
  case atStart => exact I0.out
  case round =>
    clear I0
    obtain ⟨j, V, M, rfl, hj, hr, hu, he⟩ := hrel
    have R := Lib.hid hr; have U := Lib.hid hu; have EE := Lib.hid he
    rw [HN.out] at hj
    clear hr hu he
    by_cases hjn : j < n
    · have t1 : decide (j < n) = true := decide_eq_true hjn
      have t1' : decide ((j : Int) < (n : Int)) = true := decide_eq_true (by omega)
      obtain ⟨x, hx⟩ : ∃ x, xs[j]? = some x := ⟨_, List.getElem?_eq_getElem (by rw [HN.out]; exact hjn)⟩
      obtain ⟨b, off, ea, hc⟩ := (HX.out.upd U.out (HS.out (by omega))).elem hx
      subst ea
      have c0 : wr.cell? ⟨b, off + j, none⟩ = some (.int .u64 (x : Int)) := by have := hc 0 _ rfl; rwa [show off + j * Elem.u64s.size + 0 = off + j by show off + j * 1 + 0 = off + j; omega] at this
      have hdrop : xs.drop j = x :: xs.drop (j + 1) := by
        obtain ⟨h1, h2⟩ := List.getElem?_eq_some_iff.1 hx
        rw [← h2]; exact List.drop_eq_getElem_cons h1
      have q1 : (0 : Int) ≤ (j : Int) := by omega
      have q2 : (j : Int) < (n : Int) := by omega
      have AT := Lib.hid (at_row wr (x := x) R.out)
      have ED := Lib.hid hdrop
      clear hc hx hdrop
      go_wp2_with fail
      refine AT.out.mono ?_
      rintro r w1 ⟨hb1, hr1⟩
      have R2 := Lib.hid (R.out.below hb1)
      have U2 := Lib.hid (U.out.step (updFalse_of hb1) fun k hk => hk.elim)
      clear hb1
      rcases hr1 with ⟨rfl, hnone⟩ | ⟨e, b', o', rfl, hsome, hsp⟩
      · have FIN := Lib.hid (show eachE hold1 L xs = (5, M) by rw [EE.out, ED.out]; unfold eachE; rw [show hold1 M x = (5, M) by unfold hold1; rw [hnone]]; rfl)
        clear hnone
        go_wp2_with fail
        go_ret
        exact ⟨by rw [FIN.out]; rfl, V, by rw [FIN.out]; exact R2.out, U2.out⟩
      · have hxe := (atL_some hsome).2

        have DO := Lib.hid (code_hold R2.out hsp)
        rw [hxe] at DO
        obtain ⟨er, M', hM⟩ : ∃ er M', hold1 M x = (er, M') := ⟨_, _, rfl⟩
        rw [hM] at DO
        have HM := Lib.hid hM
        clear hsome hsp hxe hM
        go_wp2_with fail
        refine DO.out.mono ?_
        rintro r w2 ⟨rfl, V', hr2, hu2⟩
        have R3 := Lib.hid (hr2.mono (T := fun k => S k ∨ w.heap.size ≤ k) fun k _ hk => by
          rcases hk with hk | hk
          · exact hk
          · exact .inr (Nat.le_trans U2.out.size hk))
        have U3 := Lib.hid (U2.out.step hu2 fun k hk => hk)
        clear hr2 hu2
        by_cases h0 : er = 0
        · subst h0
          have FIN := Lib.hid (show eachE hold1 L xs = eachE hold1 M' (xs.drop (j + 1)) by rw [EE.out, ED.out]; show (if (hold1 M x).1 = 0 then _ else _) = _; rw [HM.out]; rfl)
          go_wp2_with fail
          go_roundw
          case rel => exact ⟨j + 1, V', M', by go_num, by rw [HN.out]; omega, R3.out, U3.out, FIN.out⟩
          case measure => simp [intOf] <;> omega
        · have q3 : ¬ ((er : Int) = 0) := by omega
          have FIN := Lib.hid (show eachE hold1 L xs = (er, M') by rw [EE.out, ED.out]; show (if (hold1 M x).1 = 0 then _ else _) = _; rw [HM.out]; exact if_neg h0)
          clear h0
          go_wp2_with fail
          go_ret
          exact ⟨by rw [FIN.out]; rfl, V', by rw [FIN.out]; exact R3.out, U3.out⟩
    · obtain rfl : j = n := by omega
      have t1 : decide (j < j) = false := decide_eq_false hjn
      have t1' : decide ((j : Int) < (j : Int)) = false := decide_eq_false (by omega)
      have FIN := Lib.hid (show eachE hold1 L xs = (0, M) by rw [EE.out, List.drop_eq_nil_of_le (by rw [HN.out]; exact Nat.le_refl _)]; rfl)
      clear hjn
      go_wp2_with fail
      go_ret
      exact ⟨by rw [FIN.out]; rfl, V, by rw [FIN.out]; exact R.out, U.out⟩

def LetS (w : World) (lb rb : Nat) (S : Nat → Prop) (L : List En) (xs : List Nat) (v : Value) (wr : World) : Prop :=
  ∃ j V M, v = .int .i64 ((j : Nat) : Int) ∧ j ≤ xs.length ∧ LedR wr lb rb V (fun k => S k ∨ w.heap.size ≤ k) M ∧ Upd S w wr ∧ eachE let1 L xs = eachE let1 M (xs.drop j)
set_option maxRecDepth 100000 in
set_option maxHeartbeats 2000000 in
theorem each_let (w : World) {lb rb : Nat} {V : Nat → Value} {S : Nat → Prop} {L : List En} {a : Option Addr} {n cap : Nat} {xs : List Nat} (h : LedR w lb rb V S L) (hx : Seq Elem.u64s w (.slice a n cap) xs) (hn : n ≤ 9223372036854775807) (hS : 0 < n → ∀ k, In (.slice a n cap) k → ¬ S k) :
    Calls Try.prog 30 #[ptrV lb 0, .slice a n cap, .func (.func 37) #[] #[]] w fun r w' => r = .returned (.int .i64 ((eachE let1 L xs).1 : Int)) ∧ ∃ V', LedR w' lb rb V' (fun k => S k ∨ w.heap.size ≤ k) (eachE let1 L xs).2 ∧ Upd S w w' := by
  obtain rfl := hx.len
  obtain ⟨n, hN⟩ : ∃ n, xs.length = n := ⟨_, rfl⟩
  have HX := Lib.hid hx; have HS := Lib.hid hS; have HN := Lib.hid hN

  have I0 := Lib.hid (show LetS w lb rb S L xs (.int .i64 0) w from ⟨0, V, L, rfl, Nat.zero_le _, h.mono fun k _ hk => .inl hk, Upd.refl _ _, rfl⟩)
  rw [hN] at hn HX HS ⊢
  clear h hx hS hN
  go_enter Try.func30, Try.ntmps30
  go_wp2
  go_loopw [15] (fun v wr => LetS w lb rb S L xs v wr) (fun v _ => n - (intOf v).toNat)
  case atStart => exact I0.out
  case round =>
    clear I0
    obtain ⟨j, V, M, rfl, hj, hr, hu, he⟩ := hrel
    have R := Lib.hid hr; have U := Lib.hid hu; have EE := Lib.hid he
    rw [HN.out] at hj
    clear hr hu he
    by_cases hjn : j < n
    · have t1 : decide (j < n) = true := decide_eq_true hjn
      have t1' : decide ((j : Int) < (n : Int)) = true := decide_eq_true (by omega)
      obtain ⟨x, hx⟩ : ∃ x, xs[j]? = some x := ⟨_, List.getElem?_eq_getElem (by rw [HN.out]; exact hjn)⟩
      obtain ⟨b, off, ea, hc⟩ := (HX.out.upd U.out (HS.out (by omega))).elem hx
      subst ea
      have c0 : wr.cell? ⟨b, off + j, none⟩ = some (.int .u64 (x : Int)) := by have := hc 0 _ rfl; rwa [show off + j * Elem.u64s.size + 0 = off + j by show off + j * 1 + 0 = off + j; omega] at this
      have hdrop : xs.drop j = x :: xs.drop (j + 1) := by
        obtain ⟨h1, h2⟩ := List.getElem?_eq_some_iff.1 hx
        rw [← h2]; exact List.drop_eq_getElem_cons h1
      have q1 : (0 : Int) ≤ (j : Int) := by omega
      have q2 : (j : Int) < (n : Int) := by omega
      have AT := Lib.hid (at_row wr (x := x) R.out)
      have ED := Lib.hid hdrop
      clear hc hx hdrop
      go_wp2_with fail
      refine AT.out.mono ?_
      rintro r w1 ⟨hb1, hr1⟩
      have R2 := Lib.hid (R.out.below hb1)
      have U2 := Lib.hid (U.out.step (updFalse_of hb1) fun k hk => hk.elim)
      clear hb1
      rcases hr1 with ⟨rfl, hnone⟩ | ⟨e, b', o', rfl, hsome, hsp⟩
      · have FIN := Lib.hid (show eachE let1 L xs = (5, M) by rw [EE.out, ED.out]; unfold eachE; rw [show let1 M x = (5, M) by unfold let1; rw [hnone]]; rfl)
        clear hnone
        go_wp2_with fail
        go_ret
        exact ⟨by rw [FIN.out]; rfl, V, by rw [FIN.out]; exact R2.out, U2.out⟩
      · have hxe := (atL_some hsome).2

        have DO := Lib.hid (code_let R2.out hsp)
        rw [hxe] at DO
        obtain ⟨er, M', hM⟩ : ∃ er M', let1 M x = (er, M') := ⟨_, _, rfl⟩
        rw [hM] at DO
        have HM := Lib.hid hM
        clear hsome hsp hxe hM
        go_wp2_with fail
        refine DO.out.mono ?_
        rintro r w2 ⟨rfl, V', hr2, hu2⟩
        have R3 := Lib.hid (hr2.mono (T := fun k => S k ∨ w.heap.size ≤ k) fun k _ hk => by
          rcases hk with hk | hk
          · exact hk
          · exact .inr (Nat.le_trans U2.out.size hk))
        have U3 := Lib.hid (U2.out.step hu2 fun k hk => hk)
        clear hr2 hu2
        by_cases h0 : er = 0
        · subst h0
          have FIN := Lib.hid (show eachE let1 L xs = eachE let1 M' (xs.drop (j + 1)) by rw [EE.out, ED.out]; show (if (let1 M x).1 = 0 then _ else _) = _; rw [HM.out]; rfl)
          go_wp2_with fail
          go_roundw
          case rel => exact ⟨j + 1, V', M', by go_num, by rw [HN.out]; omega, R3.out, U3.out, FIN.out⟩
          case measure => simp [intOf] <;> omega
        · have q3 : ¬ ((er : Int) = 0) := by omega
          have FIN := Lib.hid (show eachE let1 L xs = (er, M') by rw [EE.out, ED.out]; show (if (let1 M x).1 = 0 then _ else _) = _; rw [HM.out]; exact if_neg h0)
          clear h0
          go_wp2_with fail
          go_ret
          exact ⟨by rw [FIN.out]; rfl, V', by rw [FIN.out]; exact R3.out, U3.out⟩
    · obtain rfl : j = n := by omega
      have t1 : decide (j < j) = false := decide_eq_false hjn
      have t1' : decide ((j : Int) < (j : Int)) = false := decide_eq_false (by omega)
      have FIN := Lib.hid (show eachE let1 L xs = (0, M) by rw [EE.out, List.drop_eq_nil_of_le (by rw [HN.out]; exact Nat.le_refl _)]; rfl)
      clear hjn
      go_wp2_with fail
      go_ret
      exact ⟨by rw [FIN.out]; rfl, V, by rw [FIN.out]; exact R.out, U.out⟩
end Go.Proofs.Ytclmdjkihijciaa
