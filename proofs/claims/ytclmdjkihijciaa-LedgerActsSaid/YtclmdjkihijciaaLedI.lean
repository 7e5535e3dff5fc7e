/- The landed ledger: Drop of a block that is there; each; Drop, Hold, Let. -/
import Derived.Test.YtclmdjkihijciaaLedH
namespace Go.Proofs.Ytclmdjkihijciaa
open Go.RowKit LedMath
set_option linter.unusedVariables false

theorem ahead_self {l : List En} (h : l.Pairwise (fun x y : En => x.a < y.a)) {i : Nat} {e : En} (he : l[i]? = some e) : aheadL l e.a = i := by
  refine ahead_of h (Nat.le_of_lt (List.getElem?_eq_some_iff.1 he).1) (fun j f hj hf => ?_) (fun j f hj hf => ?_)
  · have := List.pairwise_iff_getElem.1 h j i (List.getElem?_eq_some_iff.1 hf).1 (List.getElem?_eq_some_iff.1 he).1 hj
    rwa [(List.getElem?_eq_some_iff.1 hf).2, (List.getElem?_eq_some_iff.1 he).2] at this
  · by_cases e' : j = i
    · subst e'; rw [he] at hf; injection hf with hf; rw [hf]; exact Nat.le_refl _
    · have := List.pairwise_iff_getElem.1 h i j (List.getElem?_eq_some_iff.1 he).1 (List.getElem?_eq_some_iff.1 hf).1 (by omega)
      rw [(List.getElem?_eq_some_iff.1 hf).2, (List.getElem?_eq_some_iff.1 he).2] at this
      omega
/-- A ledger and an entry of it, since w. -/
structure LedB (w : World) (lb rb : Nat) (V : Nat → Value) (S : Nat → Prop) (L : List En) (w' : World) : Prop where
  r : LedR w' lb rb V S L
  below : Below w.heap.size w w'
theorem LedR.drew {w : World} {lb rb : Nat} {V : Nat → Value} {S : Nat → Prop} {L : List En} (h : LedR w lb rb V S L) : LedR w.drew lb rb V S L := h.below (Below.refl _ w).drew
theorem LedB.drew {w w' : World} {lb rb : Nat} {V : Nat → Value} {S : Nat → Prop} {L : List En} (h : LedB w lb rb V S L w') : LedB w lb rb V S L w'.drew := ⟨h.r.drew, h.below.drew⟩
theorem LedB.drewN {w w' : World} {lb rb : Nat} {V : Nat → Value} {S : Nat → Prop} {L : List En} (h : LedB w lb rb V S L w') (n : Nat) : LedB w lb rb V S L (w'.drewN n) := ⟨h.r.below (below_drewN (Below.refl _ w') n), below_drewN h.below n⟩
set_option maxRecDepth 100000 in
set_option maxHeartbeats 2000000 in
/-- Drop of a block that is there. -/
theorem code_drop {w : World} {lb rb b o q : Nat} {V : Nat → Value} {S : Nat → Prop} {L : List En} {e : En} (h : LedR w lb rb V S L) (k : Spot V L e b o) (hq : w.cell? ⟨q, 0, none⟩ = some (ptrV lb 0)) :
    Calls Try.prog 34 #[ptrV b o, ptrV q 0] w fun r w' => r = .returned (.int .i64 ((drop1 L e.a).1 : Int)) ∧ ∃ V', LedR w' lb rb V' (fun k => S k ∨ w.heap.size ≤ k) (drop1 L e.a).2 ∧ Upd S w w' := by
  have hat := atL_of h.good k.mem rfl
  have E := Lib.hid (show drop1 L e.a = (0, dropE L e.a) by unfold drop1; rw [hat])
  obtain ⟨c0, c1, c2, c3⟩ := k.cells h
  obtain ⟨s, hs⟩ : ∃ s, e.a / 1024 = s := ⟨_, rfl⟩
  have hs1 : s < 1024 := by have := h.good.lt' k.mem; omega
  obtain ⟨i, off, n, cap, hi, hv, ho⟩ := k.at'
  rw [hs] at hi hv
  have hn : n = (rowOf L s).length := by have := (h.row s hs1).seq; rw [hv] at this; exact this.len
  have lc := h.lc
  have rc := h.cell s hs1
  have rf := h.fz s hs1
  rw [hv] at rc
  have d1 : (e.a : Int) / 1024 = (s : Int) := by omega
  have d2 : Int.tdiv (e.a : Int) 1024 = (s : Int) := by rw [← hs]; exact (Int.ofNat_tdiv _ _).symm
  have r1 : (s : Int) < 1024 := by omega
  have r2 : (0 : Int) ≤ (s : Int) := by omega
  obtain ⟨x, hx⟩ : ∃ x, e.a = x := ⟨_, rfl⟩
  rw [hx] at c0 d1 d2
  have ST : Hid (LedB w lb rb V S L w) := Lib.hid ⟨h, Below.refl _ _⟩
  have HF : Hid (∀ w', LedB w lb rb V S L w' → Calls Try.prog 28 #[.slice (some ⟨b, off, none⟩) n cap, .int .u64 (x : Int)] w' fun r w2 => r = .returned (.tuple #[.int .i64 (i : Int), .bool true]) ∧ LedB w lb rb V S L w2) := Lib.hid fun w' k' => by
    have hr := (k'.r.row s hs1).seq
    rw [hv] at hr
    have rise := (k'.r.good.row s).rise
    have h1 := code_find w' (x := x) hr rise (by have := k'.r.good.row_len s; omega)
    rw [← hx, ahead_self rise hi, (begins_at rise).2 ⟨e, by rw [ahead_self rise hi]; exact hi, rfl⟩] at h1
    rw [← hx]
    exact h1.mono fun r w2 g => ⟨g.1, k'.r.below g.2, below_then k'.below k'.below.size g.2⟩
  have HD : Hid (∀ w', LedB w lb rb V S L w' → Calls Try.prog 35 #[.slice (some ⟨b, off, none⟩) n cap, .int .i64 (i : Int), .int .i64 ((i : Int) + 1)] w' fun r w2 =>
      ∃ a' m' c', ∃ v', v' = Value.slice a' m' c' ∧ r = .returned (.slice a' m' c') ∧ w2.cell? ⟨rb, s, none⟩ = some (.slice (some ⟨b, off, none⟩) n cap) ∧ w2.frozen? ⟨rb, s, none⟩ = false ∧ ∃ V', LedR (w2.setCell ⟨rb, s, none⟩ v') lb rb V' (fun k => S k ∨ w.heap.size ≤ k) (dropE L e.a) ∧ Upd S w (w2.setCell ⟨rb, s, none⟩ v')) := Lib.hid fun w' k' => by
    have hr := k'.r.row s hs1
    have hlt := (List.getElem?_eq_some_iff.1 hi).1
    have h1 := delete_any w' hr hlt (by have := k'.r.good.row_len s; omega)
    rw [hv] at h1
    refine h1.mono ?_
    rintro r w2 ⟨v', rfl, g1, g2, g3⟩
    rw [← hv] at g2 g3
    have er : rowOf (dropE L e.a) s = (rowOf L s).take i ++ (rowOf L s).drop (i + 1) := by rw [row_drop, strike_rise (k'.r.good.row s).rise hi]
    obtain ⟨p1, p2⟩ := k'.r.put hs1 g2 (k'.r.good.drop e.a) (by rw [er]; exact g1) (fun k hk => .inl (g3 k hk)) (fun t ht => row_drop_other (by rw [hs]; exact ht))
    have nr : ¬ In (V s) rb := fun hh => (k'.r.own s _ hs1 hh).2.2 rfl
    obtain ⟨a', c', ev, _⟩ := g1.slice'
    refine ⟨a', _, c', v', ev, by rw [ev], by rw [← hv]; exact cell_upd (k'.r.cell s hs1) g2 nr, fz_upd (k'.r.fz s hs1) k'.r.ltr g2 nr, _, p1.mono fun k hk hk' => ?_, ?_⟩
    · rcases hk' with hk' | hk'
      · exact .inl hk'
      · exact .inr (Nat.le_trans k'.below.size hk')
    · exact (updFalse_of k'.below).mono (fun _ h => h.elim) |>.step p2 fun k hk => .inl hk
  have hi9 : i ≤ 1024 := by have := (List.getElem?_eq_some_iff.1 hi).1; have := h.good.row_len s; omega
  have iw : IntKind.i64.wrap ((i : Int) + 1) = (i : Int) + 1 := IntWalk.i64_in _ ⟨by omega, by omega⟩
  have QC := Lib.hid hq
  have KK : Hid (∀ w', LedB w lb rb V S L w' → w'.cell? ⟨rb, s, none⟩ = some (.slice (some ⟨b, off, none⟩) n cap)) := Lib.hid fun w' k' => by rw [← hv]; exact k'.r.cell s hs1
  have KC : Hid (∀ w', LedB w lb rb V S L w' → w'.cell? ⟨b, o, none⟩ = some (.int .u64 (x : Int))) := Lib.hid fun w' k' => by rw [← hx]; exact (k.cells k'.r).c0
  clear h k hat hi hv ho hn hs hx
  go_enter Try.func34, Try.ntmps34
  go_wp2
  go_quiet (fail)
  go_wp2
  go_region_held3 (fun w' => w'.cell? ⟨rb, s, none⟩ = some (.slice (some ⟨b, off, none⟩) n cap) ∧ w'.cell? ⟨b, o, none⟩ = some (.int .u64 (x : Int))) (first | go_keep | exact ⟨rc, c0⟩)
    (first
      | (go_at_call 28; (first | (with_reducible refine (HF.out _ (ST.out.drewN _)).mono ?_) | (with_reducible refine (HF.out _ ST.out.drew).mono ?_) | (with_reducible refine (HF.out _ ST.out).mono ?_)); rintro r w5 ⟨rfl, hst⟩; have rc := KK.out _ hst; have c0 := KC.out _ hst; have ST := Lib.hid hst; clear hst))
  go_wp2_with fail

  refine (HD.out _ ST.out).mono ?_
  rintro r w6 ⟨a', m', c', v', ev, rfl, k1, k2, V', k3, k4⟩
  subst ev
  have K3 := Lib.hid k3; have K4 := Lib.hid k4
  clear k3 k4
  go_wp2_with fail
  go_ret
  exact ⟨by rw [E.out]; rfl, V', by rw [E.out]; exact K3.out, K4.out⟩
end Go.Proofs.Ytclmdjkihijciaa
