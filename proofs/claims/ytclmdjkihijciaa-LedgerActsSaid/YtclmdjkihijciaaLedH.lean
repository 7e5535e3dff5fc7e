/- The landed ledger: a row put anew; what is held; the three that are done with a block. -/
import Derived.Test.YtclmdjkihijciaaLedG
import Derived.Test.YtclmdjkihijciaaLedMath2
namespace Go.Proofs.Ytclmdjkihijciaa
open Go.RowKit LedMath
set_option linter.unusedVariables false

/-- A row has been written where it lay. -/
theorem LedR.held {w w' : World} {lb rb s : Nat} {V : Nat → Value} {S : Nat → Prop} {L L' : List En} (h : LedR w lb rb V S L) (hs : s < 1024) (u : Upd (In (V s)) w w') (gd : GoodL L') (hv : Vec Elem.ents w' (V s) (rowOf L' s)) (ho : ∀ t, t ≠ s → rowOf L' t = rowOf L t) : LedR w' lb rb V S L' :=
  { good := gd, ltl := Nat.lt_of_lt_of_le h.ltl u.size, ltr := Nat.lt_of_lt_of_le h.ltr u.size, ne := h.ne, sl := h.sl, sr := h.sr
    lc := cell_upd h.lc u (fun e => (h.own s _ hs e).2.1 rfl), lf := fz_upd h.lf h.ltl u (fun e => (h.own s _ hs e).2.1 rfl)
    cell := fun t ht => cell_upd (h.cell t ht) u (fun e => (h.own s _ hs e).2.2 rfl), fz := fun t ht => fz_upd (h.fz t ht) h.ltr u (fun e => (h.own s _ hs e).2.2 rfl)
    row := fun t ht => by
      by_cases e : t = s
      · subst e; exact hv
      · rw [ho t e]
        exact (h.row t ht).upd u fun k hk hk' => e (h.apart t s k ht hs hk hk')
    own := h.own, apart := h.apart }
/-- A row has been written, or made anew, and is put into its place. -/
theorem LedR.put {w w1 : World} {lb rb s : Nat} {V : Nat → Value} {S : Nat → Prop} {L L' : List En} {v' : Value} (h : LedR w lb rb V S L) (hs : s < 1024) (u : Upd (In (V s)) w w1) (gd : GoodL L') (hv : Vec Elem.ents w1 v' (rowOf L' s)) (hin : ∀ k, In v' k → In (V s) k ∨ w.heap.size ≤ k) (ho : ∀ t, t ≠ s → rowOf L' t = rowOf L t) :
    LedR (w1.setCell ⟨rb, s, none⟩ v') lb rb (fun t => if t = s then v' else V t) (fun k => S k ∨ w.heap.size ≤ k) L' ∧ Upd S w (w1.setCell ⟨rb, s, none⟩ v') := by
  have nl : ¬ In (V s) lb := fun e => (h.own s _ hs e).2.1 rfl
  have nr : ¬ In (V s) rb := fun e => (h.own s _ hs e).2.2 rfl
  have u2 : Upd (fun k => k = rb) w1 (w1.setCell ⟨rb, s, none⟩ v') := Upd.setCell (S := fun k => k = rb) (Upd.refl _ w1) (p := ⟨rb, s, none⟩) (.inl rfl) v'
  have uS : Upd S w (w1.setCell ⟨rb, s, none⟩ v') := (u.mono fun k hk => (h.own s k hs hk).1).step u2 fun k hk => .inl (by rw [hk]; exact h.sr)
  have c1 : ∀ t, t < 1024 → w1.cell? ⟨rb, t, none⟩ = some (V t) := fun t ht => cell_upd (h.cell t ht) u nr
  have nv : ∀ k, In v' k → k ≠ rb ∧ k ≠ lb := fun k hk => by
    rcases hin k hk with x | x
    · exact ⟨(h.own s k hs x).2.2, (h.own s k hs x).2.1⟩
    · have := h.ltl; have := h.ltr; exact ⟨by omega, by omega⟩
  refine ⟨{ good := gd, ltl := Nat.lt_of_lt_of_le h.ltl uS.size, ltr := Nat.lt_of_lt_of_le h.ltr uS.size, ne := h.ne, sl := .inl h.sl, sr := .inl h.sr
            lc := cell_upd (cell_upd h.lc u nl) u2 h.ne
            lf := fz_upd (fz_upd h.lf h.ltl u nl) (Nat.lt_of_lt_of_le h.ltl u.size) u2 h.ne
            cell := fun t ht => ?_, fz := fun t ht => ?_, row := fun t ht => ?_, own := fun t k ht hk => ?_, apart := fun t t' k ht ht' hk hk' => ?_ }, uS⟩
  · by_cases e : t = s
    · subst e
      rw [if_pos rfl]
      exact World.cell?_setCell_same _ _ _ (c1 t ht)
    · rw [if_neg e, World.cell?_setCell_other _ _ _ _ (by simp <;> omega)]
      exact c1 t ht
  · rw [World.frozen?_setCell]
    exact fz_upd (h.fz t ht) h.ltr u nr
  · by_cases e : t = s
    · subst e
      simp only [if_true]
      exact hv.upd u2 fun k hk => (nv k hk).1
    · simp only [if_neg e]
      rw [ho t e]
      exact ((h.row t ht).upd u fun k hk hk' => e (h.apart t s k ht hs hk hk')).upd u2 fun k hk hk' => (h.own t k ht hk).2.2 hk'
  · by_cases e : t = s
    · subst e
      simp only [if_true] at hk
      refine ⟨?_, (nv k hk).2, (nv k hk).1⟩
      rcases hin k hk with x | x
      · exact .inl (h.own t k ht x).1
      · exact .inr x
    · simp only [if_neg e] at hk
      exact ⟨.inl (h.own t k ht hk).1, (h.own t k ht hk).2⟩
  · by_cases e : t = s
    · by_cases e' : t' = s
      · rw [e, e']
      · subst e
        simp only [if_true] at hk
        simp only [if_neg e'] at hk'
        rcases hin k hk with x | x
        · exact h.apart t t' k ht ht' x hk'
        · have := (h.row t' ht').lt hk'; omega
    · by_cases e' : t' = s
      · subst e'
        simp only [if_true] at hk'
        simp only [if_neg e] at hk
        rcases hin k hk' with x | x
        · exact h.apart t t' k ht ht' hk x
        · have := (h.row t ht).lt hk; omega
      · simp only [if_neg e] at hk
        simp only [if_neg e'] at hk'
        exact h.apart t t' k ht ht' hk hk'
theorem all_get (l : List En) (j : Nat) : (Elem.ents.all l)[j]? = (l[j / 4]?).bind fun x => (Elem.ents.put x)[j % 4]? := by
  cases hq : l[j / 4]? with
  | none =>
    have h1 := List.getElem?_eq_none_iff.1 hq
    rw [Option.bind_none, List.getElem?_eq_none_iff, Elem.length_all]
    show l.length * 4 ≤ j
    omega
  | some x =>
    have := Elem.ents.all_at hq (j % 4) (show j % 4 < 4 by omega)
    rw [show j / 4 * Elem.ents.size + j % 4 = j from (by show j / 4 * 4 + j % 4 = j; omega)] at this
    rw [this]; rfl
/-- Held, or not: one cell. -/
theorem Vec.setH {w : World} {b off n cap i : Nat} {l : List En} {e : En} (h : Vec Elem.ents w (.slice (some ⟨b, off, none⟩) n cap) l) (he : l[i]? = some e) (f : Bool) : Vec Elem.ents (w.setCell ⟨b, off + i * 4 + 3, none⟩ (.bool f)) (.slice (some ⟨b, off, none⟩) n cap) (l.set i (putH f e)) := by
  rcases h with ⟨h, _⟩ | ⟨g, o, c, e1, hg, hn, hm, hc, hsp⟩
  · cases h
  · injection e1 with e1 e2 e3
    injection e1 with e1
    injection e1 with eb eo _
    subst eb eo e3
    have c3 : w.cell? ⟨b, off + i * 4 + 3, none⟩ = some (.bool e.h) := by
      rw [Nat.add_assoc]
      refine hc (i * 4 + 3) _ ?_
      rw [all_get, show (i * 4 + 3) / 4 = i by omega, he, show (i * 4 + 3) % 4 = 3 by omega]; rfl
    refine .inr ⟨b, off, cap, by rw [List.length_set, e2], by simpa [World.setCell] using hg, by rw [List.length_set]; exact hn, hm, fun j u hj => ?_, fun j hj => ⟨?_, by rw [World.frozen?_setCell]; exact (hsp j hj).2⟩⟩
    · rw [all_get] at hj
      by_cases hji : j = i * 4 + 3
      · subst hji
        rw [show (i * 4 + 3) / 4 = i by omega, show (i * 4 + 3) % 4 = 3 by omega, List.getElem?_set_self (List.getElem?_eq_some_iff.1 he).1] at hj
        have hu : Value.bool f = u := by simpa [Elem.ents, putH] using hj
        rw [← hu, ← Nat.add_assoc]
        exact World.cell?_setCell_same _ _ _ c3
      · rw [World.cell?_setCell_other _ _ _ _ (by simp <;> omega)]
        refine hc j u ?_
        rw [all_get]
        by_cases hq : j / 4 = i
        · rw [hq, List.getElem?_set_self (List.getElem?_eq_some_iff.1 he).1] at hj
          rw [hq, he]
          have hr : j % 4 = 0 ∨ j % 4 = 1 ∨ j % 4 = 2 := by omega
          rcases hr with hr | hr | hr <;> (rw [hr] at hj ⊢; exact hj)
        · rw [List.getElem?_set_ne (by omega)] at hj; exact hj
    · by_cases hji : j = i * 4 + 3
      · subst hji
        rw [← Nat.add_assoc, World.cell?_setCell_same _ _ _ c3]; rfl
      · rw [World.cell?_setCell_other _ _ _ _ (by simp <;> omega)]
        exact (hsp j hj).1
/-- Where an entry stands, its held cell may be turned. -/
theorem LedR.setH {w : World} {lb rb b o : Nat} {V : Nat → Value} {S : Nat → Prop} {L : List En} {e : En} (h : LedR w lb rb V S L) (k : Spot V L e b o) (f : Bool) : LedR (w.setCell ⟨b, o + 3, none⟩ (.bool f)) lb rb V S (setE L e.a f) ∧ Upd S w (w.setCell ⟨b, o + 3, none⟩ (.bool f)) ∧ w.frozen? ⟨b, o + 3, none⟩ = false := by
  have hs : e.a / 1024 < 1024 := by have := h.good.lt' k.mem; omega
  obtain ⟨i, off, n, cap, hi, hv, rfl⟩ := k.at'
  have hr := h.row _ hs
  rw [hv] at hr
  have hb : In (V (e.a / 1024)) b := by rw [hv]; rfl
  have u : Upd (In (V (e.a / 1024))) w (w.setCell ⟨b, off + i * 4 + 3, none⟩ (.bool f)) := (Upd.refl _ w).setCell (p := ⟨b, off + i * 4 + 3, none⟩) (.inl hb) _
  refine ⟨h.held hs u (h.good.set e.a f) ?_ fun t ht => row_set_other f ht, u.mono fun x hx => (h.own _ x hs hx).1, ?_⟩
  · rw [hv, row_set, set_rise (h.good.row _).rise f hi]
    exact hr.setH hi f
  · rcases hr with ⟨x, _⟩ | ⟨g, o', c', e1, hg, hn, hm, hc, hsp⟩
    · cases x
    · injection e1 with e1 e2 e3
      injection e1 with e1
      injection e1 with eb eo _
      subst eb eo e3
      have := (List.getElem?_eq_some_iff.1 hi).1
      rw [Nat.add_assoc]
      exact (hsp (i * 4 + 3) (by show i * 4 + 3 < cap * 4; omega)).2
/-- Hold of a block that is there. -/
theorem code_hold {w : World} {lb rb b o : Nat} {V : Nat → Value} {S : Nat → Prop} {L : List En} {e : En} (h : LedR w lb rb V S L) (k : Spot V L e b o) :
    Calls Try.prog 31 #[ptrV b o] w fun r w' => r = .returned (.int .i64 ((hold1 L e.a).1 : Int)) ∧ ∃ V', LedR w' lb rb V' (fun k => S k ∨ w.heap.size ≤ k) (hold1 L e.a).2 ∧ Upd S w w' := by
  have hat := atL_of h.good k.mem rfl
  obtain ⟨c0, c1, c2, c3⟩ := k.cells h
  obtain ⟨f, hf⟩ : ∃ f, e.h = f := ⟨_, rfl⟩
  rw [hf] at c3
  cases f
  · obtain ⟨h1, h2, h3⟩ := h.setH k true
    have E := Lib.hid (show hold1 L e.a = (0, setE L e.a true) by unfold hold1; rw [hat]; simp [hf])
    have H1 := Lib.hid (h1.mono (T := fun k => S k ∨ w.heap.size ≤ k) fun k _ hk => .inl hk); have H2 := Lib.hid h2
    clear h1 h2 h k hat
    go_enter Try.func31, Try.ntmps31
    go_wp2
    go_ret
    exact ⟨by rw [E.out]; rfl, V, by rw [E.out]; exact H1.out, H2.out⟩
  · have E := Lib.hid (show hold1 L e.a = (7, L) by unfold hold1; rw [hat]; simp [hf])
    have H := Lib.hid (h.mono (T := fun k => S k ∨ w.heap.size ≤ k) fun k _ hk => .inl hk)
    clear h k hat
    go_enter Try.func31, Try.ntmps31
    go_wp2
    go_ret
    exact ⟨by rw [E.out]; rfl, V, by rw [E.out]; exact H.out, Upd.refl _ _⟩
/-- Let of a block that is there. -/
theorem code_let {w : World} {lb rb b o : Nat} {V : Nat → Value} {S : Nat → Prop} {L : List En} {e : En} (h : LedR w lb rb V S L) (k : Spot V L e b o) :
    Calls Try.prog 37 #[ptrV b o] w fun r w' => r = .returned (.int .i64 ((let1 L e.a).1 : Int)) ∧ ∃ V', LedR w' lb rb V' (fun k => S k ∨ w.heap.size ≤ k) (let1 L e.a).2 ∧ Upd S w w' := by
  have hat := atL_of h.good k.mem rfl
  obtain ⟨c0, c1, c2, c3⟩ := k.cells h
  obtain ⟨f, hf⟩ : ∃ f, e.h = f := ⟨_, rfl⟩
  rw [hf] at c3
  cases f
  · have E := Lib.hid (show let1 L e.a = (8, L) by unfold let1; rw [hat]; simp [hf])
    have H := Lib.hid (h.mono (T := fun k => S k ∨ w.heap.size ≤ k) fun k _ hk => .inl hk)
    clear h k hat
    go_enter Try.func37, Try.ntmps37
    go_wp2
    go_ret
    exact ⟨by rw [E.out]; rfl, V, by rw [E.out]; exact H.out, Upd.refl _ _⟩
  · obtain ⟨h1, h2, h3⟩ := h.setH k false
    have E := Lib.hid (show let1 L e.a = (0, setE L e.a false) by unfold let1; rw [hat]; simp [hf])
    have H1 := Lib.hid (h1.mono (T := fun k => S k ∨ w.heap.size ≤ k) fun k _ hk => .inl hk); have H2 := Lib.hid h2
    clear h1 h2 h k hat
    go_enter Try.func37, Try.ntmps37
    go_wp2
    go_ret
    exact ⟨by rw [E.out]; rfl, V, by rw [E.out]; exact H1.out, H2.out⟩
end Go.Proofs.Ytclmdjkihijciaa
