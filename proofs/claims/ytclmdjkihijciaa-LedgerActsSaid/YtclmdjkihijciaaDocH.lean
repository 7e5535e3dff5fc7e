/- The law's each, over the document's ledger. (Written by geneach15.py.) -/
import Derived.Test.YtclmdjkihijciaaDocE
import Derived.Test.YtclmdjkihijciaaLedJ
namespace Go.Proofs.Ytclmdjkihijciaa
open Go.RowKit LedMath
set_option linter.unusedVariables false

theorem doc_Hold' (w : World) {mb x : Nat} {T : Nat → Prop} {M : List En} (h : DL w mb T M) : Calls Try.prog 17 #[ptrV mb 0, .int .u64 (x : Int)] w fun r w' => r = .returned (.int .i64 ((hold1 M x).1 : Int)) ∧ DL w' mb (fun k => T k ∨ w.heap.size ≤ k) (hold1 M x).2 ∧ Upd T w w' := (doc_Hold w h).mono fun r w' k => ⟨k.1, k.2.1.mono fun _ _ hk => .inl hk, k.2.2⟩
theorem doc_Let' (w : World) {mb x : Nat} {T : Nat → Prop} {M : List En} (h : DL w mb T M) : Calls Try.prog 19 #[ptrV mb 0, .int .u64 (x : Int)] w fun r w' => r = .returned (.int .i64 ((let1 M x).1 : Int)) ∧ DL w' mb (fun k => T k ∨ w.heap.size ≤ k) (let1 M x).2 ∧ Upd T w w' := (doc_Let w h).mono fun r w' k => ⟨k.1, k.2.1.mono fun _ _ hk => .inl hk, k.2.2⟩
theorem doc_Drop' (w : World) {mb x : Nat} {T : Nat → Prop} {M : List En} (h : DL w mb T M) : Calls Try.prog 16 #[ptrV mb 0, .int .u64 (x : Int)] w fun r w' => r = .returned (.int .i64 ((drop1 M x).1 : Int)) ∧ DL w' mb (fun k => T k ∨ w.heap.size ≤ k) (drop1 M x).2 ∧ Upd T w w' := doc_Drop w h
def DropQ (w : World) (mb : Nat) (T : Nat → Prop) (M0 : List En) (xs : List Nat) (v : Value) (wr : World) : Prop :=
  ∃ j M, v = .int .i64 ((j : Nat) : Int) ∧ j ≤ xs.length ∧ DL wr mb (fun k => T k ∨ w.heap.size ≤ k) M ∧ Upd T w wr ∧ eachE drop1 M0 xs = eachE drop1 M (xs.drop j)
set_option maxRecDepth 100000 in
set_option maxHeartbeats 2000000 in
theorem doc_each_drop (w : World) {mb : Nat} {T : Nat → Prop} {M0 : List En} {a : Option Addr} {n cap : Nat} {xs : List Nat} (h : DL w mb T M0) (hx : Seq Elem.u64s w (.slice a n cap) xs) (hn : n ≤ 9223372036854775807) (hT : 0 < n → ∀ k, In (.slice a n cap) k → ¬ T k) :
    Calls Try.prog 15 #[.slice a n cap, .func (.func 16) #[ptrV mb 0] #[]] w fun r w' => r = .returned (.int .i64 ((eachE drop1 M0 xs).1 : Int)) ∧ DL w' mb (fun k => T k ∨ w.heap.size ≤ k) (eachE drop1 M0 xs).2 ∧ Upd T w w' := by
  obtain rfl := hx.len
  obtain ⟨n, hN⟩ : ∃ n, xs.length = n := ⟨_, rfl⟩
  have HX := Lib.hid hx; have HS := Lib.hid hT; have HN := Lib.hid hN
  have I0 := Lib.hid (show DropQ w mb T M0 xs (.int .i64 0) w from ⟨0, M0, rfl, Nat.zero_le _, h.mono fun k _ hk => .inl hk, Upd.refl _ _, rfl⟩)
  rw [hN] at hn HX HS ⊢
  clear h hx hT hN
  go_enter Try.func15, Try.ntmps15
  go_wp2
  go_loopw [10] (fun v wr => DropQ w mb T M0 xs v wr) (fun v _ => n - (intOf v).toNat)
  case atStart => exact I0.out
  case round =>
    clear I0
    obtain ⟨j, M, rfl, hj, hr, hu, he⟩ := hrel
    have R := Lib.hid hr; have U := Lib.hid hu; have EE := Lib.hid he
    rw [HN.out] at hj
    clear hr hu he
    by_cases hjn : j < n
    · have t1 : decide (j < n) = true := decide_eq_true hjn
      have t1' : decide ((j : Int) < (n : Int)) = true := decide_eq_true (by omega)
      obtain ⟨x, hx⟩ : ∃ x, xs[j]? = some x := ⟨_, List.getElem?_eq_getElem (by rw [HN.out]; exact hjn)⟩
      obtain ⟨b, off, ea, hc⟩ := (HX.out.upd U.out (HS.out (by omega))).elem hx
      subst ea
      have c0 : wr.cell? ⟨b, off + j, none⟩ = some (.int .u64 (x : Int)) := by have := hc 0 _ rfl; rwa [show off + j * Elem.u64s.size + 0 = off + j by show off + j * 1 + 0 = off + j; omega] at this
      have hdrop : xs.drop j = x :: xs.drop (j + 1) := by
        obtain ⟨h1, h2⟩ := List.getElem?_eq_some_iff.1 hx
        rw [← h2]; exact List.drop_eq_getElem_cons h1
      have q1 : (0 : Int) ≤ (j : Int) := by omega
      have q2 : (j : Int) < (n : Int) := by omega
      have w9 : IntKind.i64.wrap ((j : Int) + 1) = (j : Int) + 1 := IntWalk.i64_in _ ⟨by omega, by omega⟩
      have DO := doc_Drop' wr (x := x) R.out
      obtain ⟨er, M', hM⟩ : ∃ er M', drop1 M x = (er, M') := ⟨_, _, rfl⟩
      rw [hM] at DO
      have DO := Lib.hid DO
      have HM := Lib.hid hM
      have ED := Lib.hid hdrop
      clear hc hx hdrop hM
      go_wp2_with fail
      refine DO.out.mono ?_
      rintro r w2 ⟨rfl, hr2, hu2⟩
      have R3 := Lib.hid (hr2.mono (S := fun k => T k ∨ w.heap.size ≤ k) fun k _ hk => by
        rcases hk with hk | hk
        · exact hk
        · exact .inr (Nat.le_trans U.out.size hk))
      have U3 := Lib.hid (U.out.step hu2 fun k hk => hk)
      clear hr2 hu2 DO
      by_cases h0 : er = 0
      · subst h0
        have EN := Lib.hid (show eachE drop1 M0 xs = eachE drop1 M' (xs.drop (j + 1)) by rw [EE.out, ED.out]; show (if (drop1 M x).1 = 0 then _ else _) = _; rw [HM.out]; rfl)
        go_wp2_with fail
        go_roundw
        case rel => exact ⟨j + 1, M', by go_num, by rw [HN.out]; omega, R3.out, U3.out, EN.out⟩
        case measure => simp [intOf] <;> omega
      · have FIN := Lib.hid (show eachE drop1 M0 xs = (er, M') by rw [EE.out, ED.out]; show (if (drop1 M x).1 = 0 then _ else _) = _; rw [HM.out]; exact if_neg h0)
        have q0 : ¬ ((er : Int) = 0) := by omega
        clear h0
        go_wp2_with fail
        go_ret
        exact ⟨by rw [FIN.out]; rfl, by rw [FIN.out]; exact R3.out, U3.out⟩
    · obtain rfl : j = n := by omega
      have t1 : decide (j < j) = false := decide_eq_false hjn
      have t1' : decide ((j : Int) < (j : Int)) = false := decide_eq_false (by omega)
      have FIN := Lib.hid (show eachE drop1 M0 xs = (0, M) by rw [EE.out, List.drop_eq_nil_of_le (by rw [HN.out]; exact Nat.le_refl _)]; rfl)
      clear hjn
      go_wp2_with fail
      go_ret
      exact ⟨by rw [FIN.out]; rfl, by rw [FIN.out]; exact R.out, U.out⟩
def HoldQ (w : World) (mb : Nat) (T : Nat → Prop) (M0 : List En) (xs : List Nat) (v : Value) (wr : World) : Prop :=
  ∃ j M, v = .int .i64 ((j : Nat) : Int) ∧ j ≤ xs.length ∧ DL wr mb (fun k => T k ∨ w.heap.size ≤ k) M ∧ Upd T w wr ∧ eachE hold1 M0 xs = eachE hold1 M (xs.drop j)
set_option maxRecDepth 100000 in
set_option maxHeartbeats 2000000 in
theorem doc_each_hold (w : World) {mb : Nat} {T : Nat → Prop} {M0 : List En} {a : Option Addr} {n cap : Nat} {xs : List Nat} (h : DL w mb T M0) (hx : Seq Elem.u64s w (.slice a n cap) xs) (hn : n ≤ 9223372036854775807) (hT : 0 < n → ∀ k, In (.slice a n cap) k → ¬ T k) :
    Calls Try.prog 15 #[.slice a n cap, .func (.func 17) #[ptrV mb 0] #[]] w fun r w' => r = .returned (.int .i64 ((eachE hold1 M0 xs).1 : Int)) ∧ DL w' mb (fun k => T k ∨ w.heap.size ≤ k) (eachE hold1 M0 xs).2 ∧ Upd T w w' := by
  obtain rfl := hx.len
  obtain ⟨n, hN⟩ : ∃ n, xs.length = n := ⟨_, rfl⟩
  have HX := Lib.hid hx; have HS := Lib.hid hT; have HN := Lib.hid hN
  have I0 := Lib.hid (show HoldQ w mb T M0 xs (.int .i64 0) w from ⟨0, M0, rfl, Nat.zero_le _, h.mono fun k _ hk => .inl hk, Upd.refl _ _, rfl⟩)
  rw [hN] at hn HX HS ⊢
  clear h hx hT hN
  go_enter Try.func15, Try.ntmps15
  go_wp2
  go_loopw [10] (fun v wr => HoldQ w mb T M0 xs v wr) (fun v _ => n - (intOf v).toNat)
  case atStart => exact I0.out
  case round =>
    clear I0
    obtain ⟨j, M, rfl, hj, hr, hu, he⟩ := hrel
    have R := Lib.hid hr; have U := Lib.hid hu; have EE := Lib.hid he
    rw [HN.out] at hj
    clear hr hu he
    by_cases hjn : j < n
    · have t1 : decide (j < n) = true := decide_eq_true hjn
      have t1' : decide ((j : Int) < (n : Int)) = true := decide_eq_true (by omega)
      obtain ⟨x, hx⟩ : ∃ x, xs[j]? = some x := ⟨_, List.getElem?_eq_getElem (by rw [HN.out]; exact hjn)⟩
      obtain ⟨b, off, ea, hc⟩ := (HX.out.upd U.out (HS.out (by omega))).elem hx
      subst ea
      have c0 : wr.cell? ⟨b, off + j, none⟩ = some (.int .u64 (x : Int)) := by have := hc 0 _ rfl; rwa [show off + j * Elem.u64s.size + 0 = off + j by show off + j * 1 + 0 = off + j; omega] at this
      have hdrop : xs.drop j = x :: xs.drop (j + 1) := by
        obtain ⟨h1, h2⟩ := List.getElem?_eq_some_iff.1 hx
        rw [← h2]; exact List.drop_eq_getElem_cons h1
      have q1 : (0 : Int) ≤ (j : Int) := by omega
      have q2 : (j : Int) < (n : Int) := by omega
      have w9 : IntKind.i64.wrap ((j : Int) + 1) = (j : Int) + 1 := IntWalk.i64_in _ ⟨by omega, by omega⟩
      have DO := doc_Hold' wr (x := x) R.out
      obtain ⟨er, M', hM⟩ : ∃ er M', hold1 M x = (er, M') := ⟨_, _, rfl⟩
      rw [hM] at DO
      have DO := Lib.hid DO
      have HM := Lib.hid hM
      have ED := Lib.hid hdrop
      clear hc hx hdrop hM
      go_wp2_with fail
      refine DO.out.mono ?_
      rintro r w2 ⟨rfl, hr2, hu2⟩
      have R3 := Lib.hid (hr2.mono (S := fun k => T k ∨ w.heap.size ≤ k) fun k _ hk => by
        rcases hk with hk | hk
        · exact hk
        · exact .inr (Nat.le_trans U.out.size hk))
      have U3 := Lib.hid (U.out.step hu2 fun k hk => hk)
      clear hr2 hu2 DO
      by_cases h0 : er = 0
      · subst h0
        have EN := Lib.hid (show eachE hold1 M0 xs = eachE hold1 M' (xs.drop (j + 1)) by rw [EE.out, ED.out]; show (if (hold1 M x).1 = 0 then _ else _) = _; rw [HM.out]; rfl)
        go_wp2_with fail
        go_roundw
        case rel => exact ⟨j + 1, M', by go_num, by rw [HN.out]; omega, R3.out, U3.out, EN.out⟩
        case measure => simp [intOf] <;> omega
      · have FIN := Lib.hid (show eachE hold1 M0 xs = (er, M') by rw [EE.out, ED.out]; show (if (hold1 M x).1 = 0 then _ else _) = _; rw [HM.out]; exact if_neg h0)
        have q0 : ¬ ((er : Int) = 0) := by omega
        clear h0
        go_wp2_with fail
        go_ret
        exact ⟨by rw [FIN.out]; rfl, by rw [FIN.out]; exact R3.out, U3.out⟩
    · obtain rfl : j = n := by omega
      have t1 : decide (j < j) = false := decide_eq_false hjn
      have t1' : decide ((j : Int) < (j : Int)) = false := decide_eq_false (by omega)
      have FIN := Lib.hid (show eachE hold1 M0 xs = (0, M) by rw [EE.out, List.drop_eq_nil_of_le (by rw [HN.out]; exact Nat.le_refl _)]; rfl)
      clear hjn
      go_wp2_with fail
      go_ret
      exact ⟨by rw [FIN.out]; rfl, by rw [FIN.out]; exact R.out, U.out⟩
def LetQ (w : World) (mb : Nat) (T : Nat → Prop) (M0 : List En) (xs : List Nat) (v : Value) (wr : World) : Prop :=
  ∃ j M, v = .int .i64 ((j : Nat) : Int) ∧ j ≤ xs.length ∧ DL wr mb (fun k => T k ∨ w.heap.size ≤ k) M ∧ Upd T w wr ∧ eachE let1 M0 xs = eachE let1 M (xs.drop j)
set_option maxRecDepth 100000 in
set_option maxHeartbeats 2000000 in
theorem doc_each_let (w : World) {mb : Nat} {T : Nat → Prop} {M0 : List En} {a : Option Addr} {n cap : Nat} {xs : List Nat} (h : DL w mb T M0) (hx : Seq Elem.u64s w (.slice a n cap) xs) (hn : n ≤ 9223372036854775807) (hT : 0 < n → ∀ k, In (.slice a n cap) k → ¬ T k) :
    Calls Try.prog 15 #[.slice a n cap, .func (.func 19) #[ptrV mb 0] #[]] w fun r w' => r = .returned (.int .i64 ((eachE let1 M0 xs).1 : Int)) ∧ DL w' mb (fun k => T k ∨ w.heap.size ≤ k) (eachE let1 M0 xs).2 ∧ Upd T w w' := by
  obtain rfl := hx.len
  obtain ⟨n, hN⟩ : ∃ n, xs.length = n := ⟨_, rfl⟩
  have HX := Lib.hid hx; have HS := Lib.hid hT; have HN := Lib.hid hN
  have I0 := Lib.hid (show LetQ w mb T M0 xs (.int .i64 0) w from ⟨0, M0, rfl, Nat.zero_le _, h.mono fun k _ hk => .inl hk, Upd.refl _ _, rfl⟩)
  rw [hN] at hn HX HS ⊢
  clear h hx hT hN
  go_enter Try.func15, Try.ntmps15
  go_wp2
  go_loopw [10] (fun v wr => LetQ w mb T M0 xs v wr) (fun v _ => n - (intOf v).toNat)
  case atStart => exact I0.out
  case round =>
    clear I0
    obtain ⟨j, M, rfl, hj, hr, hu, he⟩ := hrel
    have R := Lib.hid hr; have U := Lib.hid hu; have EE := Lib.hid he
    rw [HN.out] at hj
    clear hr hu he
    by_cases hjn : j < n
    · have t1 : decide (j < n) = true := decide_eq_true hjn
      have t1' : decide ((j : Int) < (n : Int)) = true := decide_eq_true (by omega)
      obtain ⟨x, hx⟩ : ∃ x, xs[j]? = some x := ⟨_, List.getElem?_eq_getElem (by rw [HN.out]; exact hjn)⟩
      obtain ⟨b, off, ea, hc⟩ := (HX.out.upd U.out (HS.out (by omega))).elem hx
      subst ea
      have c0 : wr.cell? ⟨b, off + j, none⟩ = some (.int .u64 (x : Int)) := by have := hc 0 _ rfl; rwa [show off + j * Elem.u64s.size + 0 = off + j by show off + j * 1 + 0 = off + j; omega] at this
      have hdrop : xs.drop j = x :: xs.drop (j + 1) := by
        obtain ⟨h1, h2⟩ := List.getElem?_eq_some_iff.1 hx
        rw [← h2]; exact List.drop_eq_getElem_cons h1
      have q1 : (0 : Int) ≤ (j : Int) := by omega
      have q2 : (j : Int) < (n : Int) := by omega
      have w9 : IntKind.i64.wrap ((j : Int) + 1) = (j : Int) + 1 := IntWalk.i64_in _ ⟨by omega, by omega⟩
      have DO := doc_Let' wr (x := x) R.out
      obtain ⟨er, M', hM⟩ : ∃ er M', let1 M x = (er, M') := ⟨_, _, rfl⟩
      rw [hM] at DO
      have DO := Lib.hid DO
      have HM := Lib.hid hM
      have ED := Lib.hid hdrop
      clear hc hx hdrop hM
      go_wp2_with fail
      refine DO.out.mono ?_
      rintro r w2 ⟨rfl, hr2, hu2⟩
      have R3 := Lib.hid (hr2.mono (S := fun k => T k ∨ w.heap.size ≤ k) fun k _ hk => by
        rcases hk with hk | hk
        · exact hk
        · exact .inr (Nat.le_trans U.out.size hk))
      have U3 := Lib.hid (U.out.step hu2 fun k hk => hk)
      clear hr2 hu2 DO
      by_cases h0 : er = 0
      · subst h0
        have EN := Lib.hid (show eachE let1 M0 xs = eachE let1 M' (xs.drop (j + 1)) by rw [EE.out, ED.out]; show (if (let1 M x).1 = 0 then _ else _) = _; rw [HM.out]; rfl)
        go_wp2_with fail
        go_roundw
        case rel => exact ⟨j + 1, M', by go_num, by rw [HN.out]; omega, R3.out, U3.out, EN.out⟩
        case measure => simp [intOf] <;> omega
      · have FIN := Lib.hid (show eachE let1 M0 xs = (er, M') by rw [EE.out, ED.out]; show (if (let1 M x).1 = 0 then _ else _) = _; rw [HM.out]; exact if_neg h0)
        have q0 : ¬ ((er : Int) = 0) := by omega
        clear h0
        go_wp2_with fail
        go_ret
        exact ⟨by rw [FIN.out]; rfl, by rw [FIN.out]; exact R3.out, U3.out⟩
    · obtain rfl : j = n := by omega
      have t1 : decide (j < j) = false := decide_eq_false hjn
      have t1' : decide ((j : Int) < (j : Int)) = false := decide_eq_false (by omega)
      have FIN := Lib.hid (show eachE let1 M0 xs = (0, M) by rw [EE.out, List.drop_eq_nil_of_le (by rw [HN.out]; exact Nat.le_refl _)]; rfl)
      clear hjn
      go_wp2_with fail
      go_ret
      exact ⟨by rw [FIN.out]; rfl, by rw [FIN.out]; exact R.out, U.out⟩
end Go.Proofs.Ytclmdjkihijciaa
