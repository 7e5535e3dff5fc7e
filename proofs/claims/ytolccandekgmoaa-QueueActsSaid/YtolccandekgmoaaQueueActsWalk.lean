/- The law QueueActs, walked. Written by genqacts.py. -/
import Derived.Test.YtolccandekgmoaaAlive11
import Derived.Test.YtolccandekgmoaaGreat11
import Derived.Test.YtolccandekgmoaaSame11
import Derived.Test.YtolccandekgmoaaActs11
import Derived.Deep.CutBlock
import Derived.Deep.DeepCutAuto
namespace Go.Proofs.Ytolccandekgmoaa.queueActs
open Go.RowKit QueueMath
set_option linter.unusedVariables false

/-- Behind an act: both answered alike, both have the same rows. -/
def Al {w : World} (C : QuC w) (b m : Nat) (F : Nat → Nat → Value) (j : Nat) (e f : Value) (wx : World) : Prop := ∃ (E : Int) (O : Nat → Prop) (S : QR), e = .int .i64 E ∧ f = .int .i64 E ∧ TQ C b O S m S wx ∧ S.all.length ≤ tot F j
def ActR {w : World} (C : QuC w) (b m : Nat) (F : Nat → Nat → Value) (n : Nat) (i : Value) (wr : World) : Prop := ∃ (j : Nat) (O : Nat → Prop) (S : QR), j ≤ n ∧ i = .int .i64 (j : Int) ∧ TQ C b O S m S wr ∧ S.all.length ≤ tot F j
def WantR (wc : World) (S : QR) (va : Value) (l : List Int) (v i : Value) (wr : World) : Prop :=
  ∃ t : Nat, t ≤ l.length ∧ i = .int .i64 (t : Int) ∧ v = .bool (hasE S (l.take t)) ∧ Below wc.heap.size wc wr ∧ Arr wr va S.all
section
variable {w : World} {C : QuC w} {b : Nat} {O : Nat → Prop} {S Y : QR} {m : Nat} {w' : World}
theorem tq_same (h : TQ C b O S m Y w') {W : World} {a1 a2 : Option Addr} {n1 n2 c1 c2 : Nat} {l : List Int} (hb : Below w'.heap.size w' W) (h1 : Arr W (.slice a1 n1 c1) l) (h2 : Arr W (.slice a2 n2 c2) l) : Calls Try.prog 20 #[.slice a1 n1 c1, .slice a2 n2 c2] W fun e w2 => e = .returned (.bool true) ∧ Below w'.heap.size w' w2 := by
  obtain ⟨_, _, e1, l1, l2⟩ := h1.out
  injection e1 with x1 x2 x3
  obtain ⟨_, _, e2, l3, l4⟩ := h2.out
  injection e2 with y1 y2 y3
  refine (same11_any W h1.seq h2.seq (by omega) (by omega)).mono fun e w2 ⟨k1, k2⟩ => ⟨?_, below_then hb hb.size k2⟩
  rw [k1, decide_eq_true rfl]
theorem vec_emptyA (w : World) (g : Nat) (h : g < w.heap.size) : Vec Elem.ints w (.slice (some ⟨g, 0, none⟩) 0 0) [] :=
  .inr ⟨g, 0, 0, rfl, h, Nat.le_refl _, by simp [maxLen], fun j u hj => by simp [Elem.all] at hj, fun j hj => by simp at hj⟩
end
set_option maxRecDepth 100000 in
set_option maxHeartbeats 16000000 in
theorem walk_of (w : World) (C : QuC w) (D : DQ) {a : Option Addr} {n cap : Nat} (len : Nat) (F : Nat → Nat → Value) (hr : Recs w (.slice a n cap) [.num .i64, .num .i64, .nums .i64] len F) (hf : Fits F len) {ah : Option Addr} {nh ch : Nat} (has : List Int) (hh : NumsAt w .i64 (.slice ah nh ch) has) :
    Calls Try.prog 3 #[.slice a n cap, .slice ah nh ch] w fun e w' => e = .returned (.bool true) ∧ Below w.heap.size w w' := by
  obtain ⟨rfl, hn1, hn2⟩ := hr.len
  obtain ⟨a9, c9, e9, l1, l2⟩ := (Arr.ofNums hh).out
  have hnh : nh = has.length := by injection e9
  have hch : ch = c9 := by injection e9
  have hnh1 : nh ≤ ch := by omega
  have hnh2 : ch ≤ 9223372036854775807 := by omega
  clear e9 l1 l2 hch
  have HNH := Lib.hid hnh
  have HR := Lib.hid hr; have HF := Lib.hid hf; have CH := Lib.hid (came_of hh)
  have AL := Lib.hid (alive_any w C)
  clear hr hf hh hnh
  go_enter Try.func3, Try.ntmps3
  go_wp2_with fail
  refine AL.out.mono ?_; rintro e w1 ⟨rfl, hb⟩
  have B1 := Lib.hid hb
  have GR := great_any w HR.out HF.out w1 hb
  obtain ⟨g, hg⟩ : ∃ g, decide (100 < n ∨ 500 < tot F n) = g := ⟨_, rfl⟩
  rw [hg] at GR
  have HG := Lib.hid hg; have GR := Lib.hid GR
  clear hb hg
  go_wp2_with fail
  refine GR.out.mono ?_; rintro e w2 ⟨rfl, hb⟩
  have B2 := Lib.hid (below_then B1.out B1.out.size hb)
  clear hb GR
  cases g with
  | true =>
    go_wp2
    go_ret
    exact ⟨rfl, B2.out⟩
  | false =>
    have hsm : n ≤ 100 ∧ tot F n ≤ 500 := by have := of_decide_eq_false HG.out; omega
    obtain ⟨hn100, htot⟩ := hsm
    have HT := Lib.hid htot
    clear htot
    by_cases hh100 : 100 < nh
    · have t1 : decide ((100 : Int) < (nh : Int)) = true := decide_eq_true (by omega)
      have t1' : decide (100 < nh) = true := decide_eq_true hh100
      go_wp2
      go_ret
      exact ⟨rfl, B2.out⟩
    · have t1 : decide ((100 : Int) < (nh : Int)) = false := decide_eq_false (by omega)
      have t1' : decide (100 < nh) = false := decide_eq_false hh100
      obtain ⟨b, hb⟩ : ∃ b, w2.heap.size = b := ⟨_, rfl⟩
      obtain ⟨m, hm⟩ : ∃ m, b + 1 = m := ⟨_, rfl⟩
      obtain ⟨W3, hW3⟩ : ∃ y, (w2.alloc (.cells #[.pointer none] 28)).alloc (.cells #[.slice none 0 0, .slice none 0 0] 31) = y := ⟨_, rfl⟩
      have I0 : Hid (ActR C b m F n (.int .i64 0) W3) := Lib.hid (by
        have h0 : OQ C w2.heap.size _ q0 _ := oq_new B2.out
        have h1 := h0.alloc (.cells #[.slice none 0 0, .slice none 0 0] 31)
        have bm := Blk.new (w2.alloc (.cells #[.pointer none] 28)) 31 #[.slice none 0 0, .slice none 0 0]
        rw [World.size_alloc, hb, hm] at bm
        rw [hb] at h1
        have hlo := B2.out.size
        rw [hb] at hlo
        rw [← hW3]
        exact ⟨0, _, q0, Nat.zero_le _, rfl, ⟨h1, ⟨_, _, bm, Arr.nil _, Arr.nil _, fun k hk => (by rcases hk with hk | hk <;> cases hk), (by show ¬ m = b; omega)⟩, by omega⟩, Nat.zero_le _⟩)
      have HH100 : Hid (nh ≤ 100) := Lib.hid (by omega)
      clear hh100
      go_wp2_with fail
      clear hb hm hW3 t1 t1'
      go_loopw [28] (fun i wr => ActR C b m F n i wr) (fun i _ => n - (intOf i).toNat)
      case atStart => exact I0.out
      case round =>
        clear I0
        obtain ⟨j, O, S, hj, rfl, hq, hl⟩ := hrel
        by_cases hjn : j < n
        · obtain ⟨b2, off2, k, y, av, cv, lst, ea, eF, hc, hk, hy, hnum⟩ := act11 HR.out hjn
          obtain ⟨c0, c1, c2⟩ := hc wr hq.os.below
          subst ea
          have hm1 : S.all.length + lst.length ≤ tot F (j + 1) := by show _ ≤ tot F j + lenV (F j 2); rw [eF]; exact Nat.add_le_add_right hl _
          have hm5 : tot F (j + 1) ≤ 500 := Nat.le_trans (tot_mono (by omega)) HT.out
          obtain ⟨ml, hml⟩ : ∃ q, lst.length = q := ⟨_, rfl⟩
          have bA := Blk.new wr 33 #[.int .i64 k, .int .i64 y, .slice av ml cv]
          obtain ⟨W1, hW1⟩ : ∃ z, wr.alloc (.cells #[.int .i64 k, .int .i64 y, .slice av ml cv] 33) = z := ⟨_, rfl⟩
          obtain ⟨bc, hbc⟩ : ∃ z, wr.heap.size = z := ⟨_, rfl⟩
          rw [hml] at c2
          rw [hW1, hbc] at bA
          have m0 : W1.cell? ⟨bc, 0, none⟩ = some (.int .i64 k) := bA.cell 0
          have m1 : W1.cell? ⟨bc, 1, none⟩ = some (.int .i64 y) := bA.cell 1
          have m2 : W1.cell? ⟨bc, 2, none⟩ = some (.slice av ml cv) := bA.cell 2
          have hgr : Below wr.heap.size wr W1 := by rw [← hW1]; exact (Below.refl _ wr).alloc (Nat.le_refl _) _
          have CM := came_of hnum
          rw [hml] at CM
          have CM := Lib.hid CM
          have TA1 : Hid (TA C b O S m S bc 33 #[.int .i64 k, .int .i64 y, .slice av ml cv] W1) := Lib.hid ⟨hq.grew hgr, bA, fun x => by have := hq.os.lt x; omega, by have := hq.mlt; omega⟩
          have HM := Lib.hid (And.intro hm1 hm5)
          have HY64 := Lib.hid hy
          have t2 : decide ((j : Int) < (n : Int)) = true := decide_eq_true (by omega)
          have t2' : decide (j < n) = true := decide_eq_true hjn
          have q3 : (0 : Int) ≤ (j : Int) := by omega
          have q4 : (j : Int) < (n : Int) := by omega
          have HMANY : Hid (S.all.length + lst.length ≤ 1000000 ∧ S.all.length + lst.length ≤ 100000) := Lib.hid (by omega)
          have HL := Lib.hid (show S.all.length ≤ tot F (j + 1) by omega)
          clear hc hq hl hm1 hm5 hnum bA hgr eF hml hy
          go_upto_block 2 with fail
          clear hW1 hbc c0 c1 c2
          go_cut [9, 10] (fun e f wx => Al C b m F (j + 1) e f wx)
          case first =>
            have hkind : k = 1 ∨ k = 2 ∨ k = 3 ∨ ¬ (k = 1 ∨ k = 2 ∨ k = 3) := by omega
            rcases hkind with hk1 | hk1 | hk1 | hk1
            · as_aux_lemma =>
              subst hk1
              obtain ⟨S1, hS1⟩ : ∃ z, (removeE S lst).1 = z := ⟨_, rfl⟩
              obtain ⟨E, hE⟩ : ∃ z, (removeE S lst).2 = z := ⟨_, rfl⟩
              have HS := Lib.hid hS1; have HE := Lib.hid hE
              clear hS1 hE
              have LP : Hid (∀ O' Y' w', TA C b O' S m Y' bc 33 #[.int .i64 1, .int .i64 y, .slice av ml cv] w' → Calls Try.prog 11 #[.pointer (some ⟨b, 0, none⟩), .slice av ml cv] w' fun e w2 => e = .returned (.int .i64 E) ∧ ∃ O2, TA C b O2 S1 m Y' bc 33 #[.int .i64 1, .int .i64 y, .slice av ml cv] w2) :=
                Lib.hid fun O' Y' w' h => by rw [← HE.out, ← HS.out]; exact ta_remove h CM.out HMANY.out.1
              have LD : Hid (∀ O' S' w', TA C b O' S' m S bc 33 #[.int .i64 1, .int .i64 y, .slice av ml cv] w' → Calls Try.prog 12 #[.slice av ml cv, .func (.func 13) #[.pointer (some ⟨m, 0, none⟩)] #[]] w' fun e w2 => e = .returned (.int .i64 E) ∧ TA C b O' S' m S1 bc 33 #[.int .i64 1, .int .i64 y, .slice av ml cv] w2) :=
                Lib.hid fun O' S' w' h => by rw [← HE.out, ← HS.out]; exact ta_remove_doc h CM.out HMANY.out.2
              have LN : Hid (S1.all.length ≤ tot F (j + 1)) := Lib.hid (by rw [← HS.out]; have := remove_len S lst; have := HL.out; omega)
              clear m0 m1
              go_wp2_with fail
              go_region_held3 (fun W => W.cell? ⟨bc, 2, none⟩ = some (.slice av ml cv)) (first | go_keep | exact m2)
                (first
                  | (go_at_call 11; (first | (with_reducible refine (LP.out _ _ _ TA1.out.drew).mono ?_) | (with_reducible refine (LP.out _ _ _ TA1.out).mono ?_)); rintro e w6 ⟨rfl, O6, hh⟩; have TA1 := Lib.hid hh; have m2 : w6.cell? ⟨bc, 2, none⟩ = some (.slice av ml cv) := hh.ba.cell 2; clear hh)
                  | (go_at_call 12; (first | (with_reducible refine (LD.out _ _ _ TA1.out.drew).mono ?_) | (with_reducible refine (LD.out _ _ _ TA1.out).mono ?_)); rintro e w6 ⟨rfl, hh⟩; have TA1 := Lib.hid hh; have m2 : w6.cell? ⟨bc, 2, none⟩ = some (.slice av ml cv) := hh.ba.cell 2; clear hh))
              all_goals
                have Q : Hid (Al C b m F (j + 1) (.int .i64 E) (.int .i64 E) _) := Lib.hid ⟨E, _, S1, rfl, rfl, TA1.out.tq, LN.out⟩
                clear m2 TA1
                go_wp2_with fail
                go_meet
                exact Q.out
            · as_aux_lemma =>
              subst hk1
              obtain ⟨S1, hS1⟩ : ∃ z, (fillE S y).1 = z := ⟨_, rfl⟩
              obtain ⟨E, hE⟩ : ∃ z, (fillE S y).2 = z := ⟨_, rfl⟩
              have HS := Lib.hid hS1; have HE := Lib.hid hE
              clear hS1 hE
              have LP : Hid (∀ O' Y' w', TA C b O' S m Y' bc 33 #[.int .i64 2, .int .i64 y, .slice av ml cv] w' → Calls Try.prog 14 #[.pointer (some ⟨b, 0, none⟩), .int .i64 y] w' fun e w2 => e = .returned (.int .i64 E) ∧ ∃ O2, TA C b O2 S1 m Y' bc 33 #[.int .i64 2, .int .i64 y, .slice av ml cv] w2) :=
                Lib.hid fun O' Y' w' h => by rw [← HE.out, ← HS.out]; exact ta_fill h HY64.out (by have := HMANY.out.1; show _ ≤ 1000000; omega)
              have LD : Hid (∀ O' S' w', TA C b O' S' m S bc 33 #[.int .i64 2, .int .i64 y, .slice av ml cv] w' → Calls Try.prog 15 #[.pointer (some ⟨m, 0, none⟩), .int .i64 y] w' fun e w2 => e = .returned (.int .i64 E) ∧ TA C b O' S' m S1 bc 33 #[.int .i64 2, .int .i64 y, .slice av ml cv] w2) :=
                Lib.hid fun O' S' w' h => by rw [← HE.out, ← HS.out]; exact ta_fill_doc D h HY64.out (by have := HMANY.out.2; omega)
              have LN : Hid (S1.all.length ≤ tot F (j + 1)) := Lib.hid (by rw [← HS.out, fill_len TA1.out.tq.os.good]; exact HL.out)
              clear m0 m2
              go_wp2_with fail
              go_region_held3 (fun W => W.cell? ⟨bc, 1, none⟩ = some (.int .i64 y)) (first | go_keep | exact m1)
                (first
                  | (go_at_call 14; (first | (with_reducible refine (LP.out _ _ _ TA1.out.drew).mono ?_) | (with_reducible refine (LP.out _ _ _ TA1.out).mono ?_)); rintro e w6 ⟨rfl, O6, hh⟩; have TA1 := Lib.hid hh; have m1 : w6.cell? ⟨bc, 1, none⟩ = some (.int .i64 y) := hh.ba.cell 1; clear hh)
                  | (go_at_call 15; (first | (with_reducible refine (LD.out _ _ _ TA1.out.drew).mono ?_) | (with_reducible refine (LD.out _ _ _ TA1.out).mono ?_)); rintro e w6 ⟨rfl, hh⟩; have TA1 := Lib.hid hh; have m1 : w6.cell? ⟨bc, 1, none⟩ = some (.int .i64 y) := hh.ba.cell 1; clear hh))
              have Q : Hid (Al C b m F (j + 1) (.int .i64 E) (.int .i64 E) _) := Lib.hid ⟨E, _, S1, rfl, rfl, TA1.out.tq, LN.out⟩
              clear m1 TA1
              go_wp2_with fail
              go_meet
              exact Q.out
            · as_aux_lemma =>
              subst hk1
              obtain ⟨S1, hS1⟩ : ∃ z, (wakeE S y).1 = z := ⟨_, rfl⟩
              obtain ⟨E, hE⟩ : ∃ z, (wakeE S y).2 = z := ⟨_, rfl⟩
              have HS := Lib.hid hS1; have HE := Lib.hid hE
              clear hS1 hE
              have LP : Hid (∀ O' Y' w', TA C b O' S m Y' bc 33 #[.int .i64 3, .int .i64 y, .slice av ml cv] w' → Calls Try.prog 16 #[.pointer (some ⟨b, 0, none⟩), .int .i64 y] w' fun e w2 => e = .returned (.int .i64 E) ∧ ∃ O2, TA C b O2 S1 m Y' bc 33 #[.int .i64 3, .int .i64 y, .slice av ml cv] w2) :=
                Lib.hid fun O' Y' w' h => by rw [← HE.out, ← HS.out]; exact ta_wake h HY64.out (by have := HMANY.out.1; show _ ≤ 1000000; omega)
              have LD : Hid (∀ O' S' w', TA C b O' S' m S bc 33 #[.int .i64 3, .int .i64 y, .slice av ml cv] w' → Calls Try.prog 17 #[.pointer (some ⟨m, 0, none⟩), .int .i64 y] w' fun e w2 => e = .returned (.int .i64 E) ∧ TA C b O' S' m S1 bc 33 #[.int .i64 3, .int .i64 y, .slice av ml cv] w2) :=
                Lib.hid fun O' S' w' h => by rw [← HE.out, ← HS.out]; exact ta_wake_doc D h HY64.out (by have := HMANY.out.2; omega)
              have LN : Hid (S1.all.length ≤ tot F (j + 1)) := Lib.hid (by rw [← HS.out, wake_len TA1.out.tq.os.good]; exact HL.out)
              clear m0 m2
              go_wp2_with fail
              go_region_held3 (fun W => W.cell? ⟨bc, 1, none⟩ = some (.int .i64 y)) (first | go_keep | exact m1)
                (first
                  | (go_at_call 16; (first | (with_reducible refine (LP.out _ _ _ TA1.out.drew).mono ?_) | (with_reducible refine (LP.out _ _ _ TA1.out).mono ?_)); rintro e w6 ⟨rfl, O6, hh⟩; have TA1 := Lib.hid hh; have m1 : w6.cell? ⟨bc, 1, none⟩ = some (.int .i64 y) := hh.ba.cell 1; clear hh)
                  | (go_at_call 17; (first | (with_reducible refine (LD.out _ _ _ TA1.out.drew).mono ?_) | (with_reducible refine (LD.out _ _ _ TA1.out).mono ?_)); rintro e w6 ⟨rfl, hh⟩; have TA1 := Lib.hid hh; have m1 : w6.cell? ⟨bc, 1, none⟩ = some (.int .i64 y) := hh.ba.cell 1; clear hh))
              have Q : Hid (Al C b m F (j + 1) (.int .i64 E) (.int .i64 E) _) := Lib.hid ⟨E, _, S1, rfl, rfl, TA1.out.tq, LN.out⟩
              clear m1 TA1
              go_wp2_with fail
              go_meet
              exact Q.out
            · as_aux_lemma =>
              have k1 : (k == (1 : Int)) = false := by rw [beq_eq_false_iff_ne]; omega
              have k2 : (k == (2 : Int)) = false := by rw [beq_eq_false_iff_ne]; omega
              have k3 : (k == (3 : Int)) = false := by rw [beq_eq_false_iff_ne]; omega
              clear hk1
              obtain ⟨S1, hS1⟩ : ∃ z, (pushE S lst).1 = z := ⟨_, rfl⟩
              obtain ⟨E, hE⟩ : ∃ z, (pushE S lst).2 = z := ⟨_, rfl⟩
              have HS := Lib.hid hS1; have HE := Lib.hid hE
              clear hS1 hE
              have LP : Hid (∀ O' Y' w', TA C b O' S m Y' bc 33 #[.int .i64 k, .int .i64 y, .slice av ml cv] w' → Calls Try.prog 18 #[.pointer (some ⟨b, 0, none⟩), .slice av ml cv] w' fun e w2 => e = .returned (.int .i64 E) ∧ ∃ O2, TA C b O2 S1 m Y' bc 33 #[.int .i64 k, .int .i64 y, .slice av ml cv] w2) :=
                Lib.hid fun O' Y' w' h => by rw [← HE.out, ← HS.out]; exact ta_push h CM.out HMANY.out.1
              have LD : Hid (∀ O' S' w', TA C b O' S' m S bc 33 #[.int .i64 k, .int .i64 y, .slice av ml cv] w' → Calls Try.prog 12 #[.slice av ml cv, .func (.func 19) #[.pointer (some ⟨m, 0, none⟩)] #[]] w' fun e w2 => e = .returned (.int .i64 E) ∧ TA C b O' S' m S1 bc 33 #[.int .i64 k, .int .i64 y, .slice av ml cv] w2) :=
                Lib.hid fun O' S' w' h => by rw [← HE.out, ← HS.out]; exact ta_push_doc h CM.out HMANY.out.2
              have LN : Hid (S1.all.length ≤ tot F (j + 1)) := Lib.hid (by rw [← HS.out]; have := push_len S lst; have := HM.out; omega)
              clear m0 m1
              go_wp2_with fail
              go_region_held3 (fun W => W.cell? ⟨bc, 2, none⟩ = some (.slice av ml cv)) (first | go_keep | exact m2)
                (first
                  | (go_at_call 18; (first | (with_reducible refine (LP.out _ _ _ TA1.out.drew).mono ?_) | (with_reducible refine (LP.out _ _ _ TA1.out).mono ?_)); rintro e w6 ⟨rfl, O6, hh⟩; have TA1 := Lib.hid hh; have m2 : w6.cell? ⟨bc, 2, none⟩ = some (.slice av ml cv) := hh.ba.cell 2; clear hh)
                  | (go_at_call 12; (first | (with_reducible refine (LD.out _ _ _ TA1.out.drew).mono ?_) | (with_reducible refine (LD.out _ _ _ TA1.out).mono ?_)); rintro e w6 ⟨rfl, hh⟩; have TA1 := Lib.hid hh; have m2 : w6.cell? ⟨bc, 2, none⟩ = some (.slice av ml cv) := hh.ba.cell 2; clear hh))
              all_goals
                have Q : Hid (Al C b m F (j + 1) (.int .i64 E) (.int .i64 E) _) := Lib.hid ⟨E, _, S1, rfl, rfl, TA1.out.tq, LN.out⟩
                clear m2 TA1
                go_wp2_with fail
                go_meet
                exact Q.out
          case rest =>
            obtain ⟨E, O1, S1, rfl, rfl, hq, hl1⟩ := hcut
            have hmany : S1.all.length ≤ 500 := by have := HM.out.2; omega
            obtain ⟨v1, v2, kb, k1, k2, k3, k4⟩ := id hq.rd
            obtain ⟨a1, c1, rfl, x1, x2⟩ := k1.out
            obtain ⟨a2, c2, rfl, x3, x4⟩ := k2.out
            obtain ⟨r, hr⟩ : ∃ z, S1.R.length = z := ⟨_, rfl⟩
            obtain ⟨f, hf⟩ : ∃ z, S1.F.length = z := ⟨_, rfl⟩
            have hsum : S1.all.length = S1.R.length + S1.F.length := List.length_append
            rw [hr] at k1 kb
            rw [hf] at k2 kb
            have DOC : Hid (∀ W, Below wc.heap.size wc W → W.cell? ⟨m, 0, none⟩ = some (.slice a1 r c1) ∧ W.cell? ⟨m, 1, none⟩ = some (.slice a2 f c2) ∧ Arr W (.slice a1 r c1) S1.R ∧ Arr W (.slice a2 f c2) S1.F ∧ TQ C b O1 S1 m S1 W) :=
              Lib.hid fun W hb => ⟨(kb.grew hb).cell 0, (kb.grew hb).cell 1, k1.grew hb, k2.grew hb, hq.grew hb⟩
            have RDY : Hid (∀ W, Below wc.heap.size wc W → Calls Try.prog 21 #[.pointer (some ⟨b, 0, none⟩)] W fun e w2 => ∃ a c, e = .returned (.slice a r c) ∧ Arr w2 (.slice a r c) S1.R ∧ Below wc.heap.size wc w2) :=
              Lib.hid fun W hb => (oq_ready (hq.grew hb).os (by show _ ≤ 1000000; omega)).mono fun e w2 ⟨a, c, z1, z2, _, _, _, z6⟩ => ⟨a, c, by rw [← hr]; exact z1, by rw [← hr]; exact z2, below_then hb hb.size z6⟩
            have FUL : Hid (∀ W, Below wc.heap.size wc W → Calls Try.prog 22 #[.pointer (some ⟨b, 0, none⟩)] W fun e w2 => ∃ a c, e = .returned (.slice a f c) ∧ Arr w2 (.slice a f c) S1.F ∧ Below wc.heap.size wc w2) :=
              Lib.hid fun W hb => (oq_full (hq.grew hb).os (by show _ ≤ 1000000; omega)).mono fun e w2 ⟨a, c, z1, z2, _, _, _, z6⟩ => ⟨a, c, by rw [← hf]; exact z1, by rw [← hf]; exact z2, below_then hb hb.size z6⟩
            have SM1 : Hid (∀ W a c, Below wc.heap.size wc W → Arr W (.slice a r c) S1.R → Calls Try.prog 20 #[.slice a r c, .slice a1 r c1] W fun e w2 => e = .returned (.bool true) ∧ Below wc.heap.size wc w2) :=
              Lib.hid fun W a c hb h1 => tq_same hq hb h1 (k1.grew hb)
            have SM2 : Hid (∀ W a c, Below wc.heap.size wc W → Arr W (.slice a f c) S1.F → Calls Try.prog 20 #[.slice a f c, .slice a2 f c2] W fun e w2 => e = .returned (.bool true) ∧ Below wc.heap.size wc w2) :=
              Lib.hid fun W a c hb h1 => tq_same hq hb h1 (k2.grew hb)
            have BW := Lib.hid (Below.refl wc.heap.size wc)
            have d0 := (DOC.out _ BW.out).1
            have d1 := (DOC.out _ BW.out).2.1
            have tE : ((E : Int) != (E : Int)) = false := by simp
            have HL1 := Lib.hid hl1
            clear hq hl1 kb k1 k2 k3 k4 hr hf hsum x1 x2 x3 x4 m0 m1 m2 TA1 CM HMANY HL hmany
            go_wp2_with fail
            go_region_held3 (fun W => W.cell? ⟨m, 0, none⟩ = some (.slice a1 r c1) ∧ W.cell? ⟨m, 1, none⟩ = some (.slice a2 f c2)) (first | go_keep | exact ⟨d0, d1⟩)
              (first
                | (go_at_call 21; (first | (with_reducible refine (RDY.out _ BW.out.drew).mono ?_) | (with_reducible refine (RDY.out _ BW.out).mono ?_)); rintro e w6 ⟨a6, c6, rfl, hv, hb⟩; have BW := Lib.hid hb; have VR := Lib.hid hv; have d0 := (DOC.out _ hb).1; have d1 := (DOC.out _ hb).2.1; clear hv hb)
                | (go_at_call 20; (first | (with_reducible refine (SM1.out _ _ _ BW.out VR.out).mono ?_) | (with_reducible refine (SM2.out _ _ _ BW.out VF.out).mono ?_)); rintro e w6 ⟨rfl, hb⟩; have BW := Lib.hid hb; have d0 := (DOC.out _ hb).1; have d1 := (DOC.out _ hb).2.1; clear hb)
                | (go_at_call 22; (first | (with_reducible refine (FUL.out _ BW.out).mono ?_) | (with_reducible refine (FUL.out _ BW.out.drew).mono ?_)); rintro e w6 ⟨a6, c6, rfl, hv, hb⟩; have BW := Lib.hid hb; have VF := Lib.hid hv; have d0 := (DOC.out _ hb).1; have d1 := (DOC.out _ hb).2.1; clear hv hb))
            have NX : Hid (ActR C b m F n (.int .i64 ((j + 1 : Nat) : Int)) _) := Lib.hid ⟨j + 1, O1, S1, hjn, rfl, (DOC.out _ BW.out).2.2.2.2, HL1.out⟩
            rw [show ((j + 1 : Nat) : Int) = (j : Int) + 1 by omega] at NX
            clear d0 d1 BW
            go_wp2
            go_roundw
            case rel => exact NX.out
            case measure => simp [intOf]; omega
        · obtain rfl : j = n := by omega
          obtain ⟨wq, rfl⟩ : ∃ x, x = wr := ⟨_, rfl⟩
          have t2 : decide ((j : Int) < (j : Int)) = false := decide_eq_false (by omega)
          have t2' : decide (j < j) = false := decide_eq_false (by omega)
          have hmany : S.all.length ≤ 500 := by have := HT.out; omega
          obtain ⟨i0, hi, hz0, hz1, hz2⟩ := info_parts infoInt
          obtain ⟨v1, v2, kb, k1, k2, k3, k4⟩ := id hq.rd
          obtain ⟨a1, c1, rfl, x1, x2⟩ := k1.out
          obtain ⟨a2, c2, rfl, x3, x4⟩ := k2.out
          obtain ⟨r, hr⟩ : ∃ z, S.R.length = z := ⟨_, rfl⟩
          obtain ⟨f, hf⟩ : ∃ z, S.F.length = z := ⟨_, rfl⟩
          have hsum : S.all.length = S.R.length + S.F.length := List.length_append
          rw [hr] at k1 kb
          rw [hf] at k2 kb
          have DOC : Hid (∀ W, Below wq.heap.size wq W → W.cell? ⟨m, 0, none⟩ = some (.slice a1 r c1) ∧ W.cell? ⟨m, 1, none⟩ = some (.slice a2 f c2) ∧ Arr W (.slice a1 r c1) S.R ∧ Arr W (.slice a2 f c2) S.F ∧ TQ C b O S m S W) :=
            Lib.hid fun W hb => ⟨(kb.grew hb).cell 0, (kb.grew hb).cell 1, k1.grew hb, k2.grew hb, hq.grew hb⟩
          have HQ := Lib.hid hq
          have BIG : Hid (S.R.length ≤ 500 ∧ S.F.length ≤ 500) := Lib.hid (by omega)
          have HMY := Lib.hid hmany
          have I64S : Hid (∀ x ∈ S.all, I64 x) := Lib.hid hq.os.i64
          have d0 := (DOC.out _ (Below.refl _ _)).1
          have d1 := (DOC.out _ (Below.refl _ _)).2.1
          have BW := Lib.hid (Below.refl wq.heap.size wq)
          clear hq hl kb k1 k2 k3 k4 hr hf hsum x1 x2 x3 x4 hmany
          go_upto_region 22 with fail
          go_region_held3 (fun W => W.cell? ⟨m, 0, none⟩ = some (.slice a1 r c1) ∧ W.cell? ⟨m, 1, none⟩ = some (.slice a2 f c2)) (first | exact ⟨d0, d1⟩ | exact ⟨(DOC.out _ ((Below.refl _ wq).alloc (Nat.le_refl _) _).drew).1, (DOC.out _ ((Below.refl _ wq).alloc (Nat.le_refl _) _).drew).2.1⟩ | exact ⟨(DOC.out _ ((Below.refl _ wq).drew.alloc (Nat.le_refl _) _)).1, (DOC.out _ ((Below.refl _ wq).drew.alloc (Nat.le_refl _) _)).2.1⟩ | go_keep)
            (first
              | (refine step_append_vec (E := Elem.ints) rfl (.tmp 92) (.tmp 96) 23 rfl 3 i0 (.int .i64 0) 8 Try.underlying23 hi hz0 hz1 hz2 rfl (.slice (some ⟨wq.heap.size, 0, none⟩) 0 0) (.slice a1 r c1) [] S.R ?_ ?_ ?_ ?_ ?_ ?_ ?_
                 · go_simp
                 · go_simp
                 · exact vec_emptyA _ _ (by (try rw [World.size_drew]); (try rw [World.size_alloc]); (try rw [World.size_drew]); omega)
                 · first | exact (DOC.out _ ((Below.refl _ wq).alloc (Nat.le_refl _) _).drew).2.2.1.seq | exact (DOC.out _ ((Below.refl _ wq).drew.alloc (Nat.le_refl _) _)).2.2.1.seq
                 · have := BIG.out; simp only [maxLen, List.length_nil]; omega
                 · have := BIG.out; simp only [List.length_nil]; omega
                 intro v6 w6 hv6 hu6 hin6
                 have BW : Hid (Below wq.heap.size wq w6) := Lib.hid (Below.trans (by first | exact ((Below.refl _ wq).alloc (Nat.le_refl _) _).drew | exact (Below.refl _ wq).drew.alloc (Nat.le_refl _) _) (hu6.below (B := wq.heap.size) (fun k hk => by have h1 := in_blk hk; omega) (by (try rw [World.size_drew]); (try rw [World.size_alloc]); (try rw [World.size_drew]); omega)))
                 have N6 : Hid (∀ k, In v6 k → wq.heap.size ≤ k) := Lib.hid (fun k hk => by
                   rcases hin6 k hk with z | z
                   · have h1 := in_blk z; omega
                   · (try rw [World.size_drew] at z); (try rw [World.size_alloc] at z); (try rw [World.size_drew] at z); omega)
                 have V6 := Lib.hid hv6
                 have d0 := (DOC.out _ BW.out).1
                 have d1 := (DOC.out _ BW.out).2.1
                 clear hv6 hu6 hin6)
              | (refine step_append_vec (E := Elem.ints) rfl (.tmp 97) (.tmp 101) 23 rfl 3 i0 (.int .i64 0) 8 Try.underlying23 hi hz0 hz1 hz2 rfl v6 (.slice a2 f c2) ([] ++ S.R) S.F ?_ ?_ V6.out (DOC.out _ BW.out).2.2.2.1.seq ?_ ?_ ?_
                 · go_simp
                 · go_simp
                 · have := BIG.out; simp only [maxLen, List.nil_append]; omega
                 · have := BIG.out; simp only [List.nil_append]; omega
                 intro v7 w7 hv7 hu7 hin7
                 have BX : Hid (Below wq.heap.size wq w7) := Lib.hid (Below.trans BW.out (hu7.below (B := wq.heap.size) (fun k hk => N6.out k hk) BW.out.size))
                 rw [List.nil_append] at hv7
                 obtain ⟨a7, c7, rfl, hc7, hc8⟩ := hv7.slice'
                 obtain ⟨N, hN⟩ : ∃ n, (S.R ++ S.F).length = n := ⟨_, rfl⟩
                 rw [hN] at hv7 hc7 ⊢
                 have V7 : Hid (Arr w7 (.slice a7 N c7) S.all) := Lib.hid (hv7.arr I64S.out)
                 have HN : Hid (S.all.length = N) := Lib.hid hN
                 have BW := BX
                 have d0 := (DOC.out _ BW.out).1
                 have d1 := (DOC.out _ BW.out).2.1
                 clear hv7 hu7 hin7 hN BX))
          have ATS : Hid (∀ W x, Below wq.heap.size wq W → Arr W (.slice a7 N c7) S.all → I64 x → Calls Try.prog 23 #[.slice a7 N c7, .int .i64 x] W fun e w2 => ∃ k : Int, e = .returned (.int .i64 k) ∧ decide (0 ≤ k) = decide (x ∈ S.all) ∧ Below wq.heap.size wq w2 ∧ Arr w2 (.slice a7 N c7) S.all) :=
            Lib.hid fun W x hb h1 hx => (at11_any W h1 hx).mono fun e w2 ⟨⟨k, z1, z2, _⟩, z3⟩ => ⟨k, z1, z2, below_then hb hb.size z3, h1.grew z3⟩
          have ALL : Hid (∀ W, Below wq.heap.size wq W → Calls Try.prog 24 #[.pointer (some ⟨b, 0, none⟩)] W fun e w2 => ∃ a c, e = .returned (.slice a N c) ∧ Arr w2 (.slice a N c) S.all ∧ Below W.heap.size W w2 ∧ Below wq.heap.size wq w2) :=
            Lib.hid fun W hb => (oq_all (HQ.out.grew hb).os (by have := HMY.out; show _ ≤ 1000000; omega)).mono fun e w2 ⟨a, c, z1, z2, _, _, _, z6⟩ => ⟨a, c, by rw [← HN.out]; exact z1, by rw [← HN.out]; exact z2, z6, below_then hb hb.size z6⟩
          have SAM : Hid (∀ W a c, Below wq.heap.size wq W → Arr W (.slice a N c) S.all → Arr W (.slice a7 N c7) S.all → Calls Try.prog 20 #[.slice a N c, .slice a7 N c7] W fun e w2 => e = .returned (.bool true) ∧ Below wq.heap.size wq w2) :=
            Lib.hid fun W a c hb h1 h2 => tq_same HQ.out hb h1 h2
          have HAS : Hid (∀ W, Below wq.heap.size wq W → Calls Try.prog 25 #[.pointer (some ⟨b, 0, none⟩), .slice ah nh ch] W fun e w2 => e = .returned (.bool (hasE S has)) ∧ Below wq.heap.size wq w2) :=
            Lib.hid fun W hb => (oq_has (HQ.out.grew hb).os (CH.out.arr W ((HQ.out.os.below).trans (hb.mono HQ.out.os.below.size))) (by have := HMY.out; have := HNH.out; have := HH100.out; show _ ≤ 1000000; omega)).mono fun e w2 ⟨z1, z2⟩ => ⟨z1, below_then hb hb.size z2⟩
          have FIN : Hid (∀ W, Below wq.heap.size wq W → Below w.heap.size w W) := Lib.hid fun W hb => HQ.out.os.below.trans (hb.mono HQ.out.os.below.size)
          have I1 : Hid (WantR wq S (.slice a7 N c7) has (.bool true) (.int .i64 0) _) := Lib.hid ⟨0, Nat.zero_le _, rfl, rfl, BW.out, V7.out⟩
          clear d0 d1 BW V7
          go_wp2
          go_loopw [12, 105] (fun v i wx => WantR wq S (.slice a7 N c7) has v i wx) (fun _ i _ => nh - (intOf i).toNat)
          case atStart => exact I1.out
          case round =>
            clear I1
            obtain ⟨t, ht, rfl, rfl, hb, hv⟩ := hrel
            rw [← HNH.out] at ht
            have BW := Lib.hid hb; have V7 := Lib.hid hv
            obtain ⟨E, hE⟩ : ∃ E, hasE S (has.take t) = E := ⟨_, rfl⟩
            rw [hE]
            have HE := Lib.hid hE
            by_cases htn : t < nh
            · obtain ⟨b3, off3, x, ea, hx, hxm, hx64, e0⟩ := (CH.out.arr _ (FIN.out _ hb)).at (t := t) (by rw [← HNH.out]; exact htn)
              subst ea
              have EN : Hid (hasE S (has.take (t + 1)) = (E && decide (x ∈ S.all))) := Lib.hid (by
                rw [List.take_add_one, hx, ← hE]
                unfold hasE
                rw [List.all_append]
                simp)
              have AT := Lib.hid (ATS.out _ x hb hv hx64)
              have s2 : decide ((t : Int) < (nh : Int)) = true := decide_eq_true (by omega)
              have s2' : decide (t < nh) = true := decide_eq_true htn
              have q3 : (0 : Int) ≤ (t : Int) := by omega
              have q4 : (t : Int) < (nh : Int) := by omega
              clear hb hv hE hx hxm hx64
              cases E with
              | false =>
                have NX : Hid (WantR wq S (.slice a7 N c7) has (.bool false) (.int .i64 ((t + 1 : Nat) : Int)) _) := Lib.hid ⟨t + 1, by rw [← HNH.out]; exact htn, rfl, by rw [EN.out]; rfl, BW.out, V7.out⟩
                rw [show ((t + 1 : Nat) : Int) = (t : Int) + 1 by omega] at NX
                go_wp2
                go_roundw
                case rel => exact NX.out
                case measure => simp [intOf]; omega
              | true =>
                go_wp2_with fail
                refine AT.out.mono ?_; rintro e w9 ⟨k, rfl, hk, hb, hv⟩
                have NX : Hid (WantR wq S (.slice a7 N c7) has (.bool (decide (0 ≤ k))) (.int .i64 ((t + 1 : Nat) : Int)) w9) := Lib.hid ⟨t + 1, by rw [← HNH.out]; exact htn, rfl, by rw [EN.out, hk]; rfl, hb, hv⟩
                rw [show ((t + 1 : Nat) : Int) = (t : Int) + 1 by omega] at NX
                clear hk hb hv e0
                go_wp2
                go_roundw
                case rel => exact NX.out
                case measure => simp [intOf]; omega
            · obtain rfl : t = nh := by omega
              have s2 : decide ((t : Int) < (t : Int)) = false := decide_eq_false (by omega)
              have s2' : decide (t < t) = false := decide_eq_false (by omega)
              have HEE : Hid (hasE S has = E) := Lib.hid (by rw [← hE, HNH.out, List.take_length])
              have tb : ((E : Bool) == E) = true := by simp
              clear hb hv hE
              go_wp2_with fail
              refine (ALL.out _ BW.out).mono ?_; rintro e w9 ⟨a9, c9, rfl, hv, hb, hb2⟩
              have V9 := Lib.hid hv; have V79 := Lib.hid (V7.out.grew hb); have BW := Lib.hid hb2
              clear hv hb hb2 V7
              go_wp2_with fail
              refine (SAM.out _ _ _ BW.out V9.out V79.out).mono ?_; rintro e w10 ⟨rfl, hb⟩
              have BW := Lib.hid hb
              clear hb
              have HS := HAS.out _ BW.out
              rw [HEE.out] at HS
              have HS := Lib.hid HS
              go_wp2_with fail
              refine HS.out.mono ?_; rintro e w11 ⟨rfl, hb⟩
              have BW := Lib.hid hb
              clear hb HS
              go_wp2
              go_ret
              exact ⟨rfl, FIN.out _ BW.out⟩
end Go.Proofs.Ytolccandekgmoaa.queueActs
