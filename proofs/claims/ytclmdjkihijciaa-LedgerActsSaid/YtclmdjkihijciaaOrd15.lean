/- A region that draws its order, with a last store: what is loaded may be taken first, the condition on the world is asked only while the store has not come up. -/
import Derived.Test.YtclmdjkihijciaaHeld15
namespace Go.Proofs.Ytclmdjkihijciaa
set_option linter.unusedVariables false
section
variable {P : Program} {ops : Array Oper} {Q : Exit → Act → World → Prop} {md : Region.Mode} {S : World → Prop} {k : Nat}
/-- Whatever comes up next; S holds as long as number k has not come up. -/
def Till (P : Program) (md : Region.Mode) (ops : Array Oper) (Q : Exit → Act → World → Prop) (S : World → Prop) (k : Nat) : Nat → Array Bool → Act → World → Prop
  | 0 => fun l a _w => Region.ready md ops l = [] ∧ Q .normal a _w
  | n + 1 => fun l a w => (Region.ready md ops l = [] → Q .normal a w) ∧ ∀ i, i ∈ Region.ready md ops l → wpOp P ops Q i (fun a' w' => ((l.setIfInBounds i true).getD k true = false → S w') ∧ Till P md ops Q S k n (l.setIfInBounds i true) a' w') a w
theorem Till.any : ∀ (n : Nat) {l : Array Bool} {a : Act} {w : World}, Till P md ops Q S k n l a w → wpAny P md ops Q n l a w
  | 0, _, _, _, h => h
  | n + 1, _, _, _, h => And.intro h.1 fun i hi => wpOp_mono (fun _ _ t => Till.any n t.2) (h.2 i hi)
theorem Till.take {i : Nat} {oi : Oper} {v : Value} (hi : ops[i]? = some oi) (hs : Region.noSelect ops = true) (hQ : ∀ c a w, Q (.panic c) (a.put oi.dst v) w → Q (.panic c) a w)
    (hki : ∀ ok, ops[k]? = some ok → ∃ e, e ∈ ok.after ∧ Region.binds md e = true ∧ e.on = i) (hne : k ≠ i) : ∀ (n : Nat) (l : Array Bool) (a : Act) (w : World),
    (∀ j oj, ops[j]? = some oj → j ≠ i → l.getD j true = false → (∀ e ∈ oj.after, Region.binds md e = true → e.on ≠ i) → oi.apart ops oj = true) →
    i ∈ Region.ready md ops l → YieldsIf P ops S oi v a → S w → l.getD k true = false → Till P md ops Q S k n (l.setIfInBounds i true) (a.put oi.dst v) w → Till P md ops Q S k (n + 1) l a w
  | n, l, a, w, hf, hr, hy, hS, hk, H => by
    refine And.intro (fun h => by rw [h] at hr; cases hr) fun j hj => ?_
    by_cases e : j = i
    · rw [e]
      exact hy.wpOp hi hS (And.intro (fun _ => hS) H)
    · have hj' := ready_mono hj e
      obtain ⟨hun, oj, hoj, hall⟩ := mem_ready.1 hj
      have hun' : l.getD i true = false := (mem_ready.1 hr).1
      have free : ∀ x ∈ oj.after, Region.binds md x = true → x.on ≠ i := fun x hx hb hh => by
        have h1 := hall x hx hb
        rw [hh] at h1
        rw [Array.getD_eq_getD_getElem?] at h1 hun'
        cases hc : l[i]? with
        | none => rw [hc] at h1; cases h1
        | some b => rw [hc] at h1 hun'; rw [show b = true from h1] at hun'; cases hun'
      have hjk : j ≠ k := fun hh => by
        subst hh
        obtain ⟨x, hx, hb, hon⟩ := hki oj hoj
        exact free x hx hb hon
      cases n with
      | zero => rw [H.1] at hj'; cases hj'
      | succ n =>
        have h2 := wpOp_putIf hoj (hf j oj hoj e hun free) (fun cs b => Region.noSelect_spec hs i oi cs b hi) (fun cs b => Region.noSelect_spec hs j oj cs b hoj) hQ hy (H.2 j hj')
        refine wpOp_mono (fun a' w' h3 => ?_) h2
        obtain ⟨y1, y2, y3⟩ := h3
        have k1 : (l.setIfInBounds j true).getD k true = false := by rw [getD_set_ne true hjk]; exact hk
        have k2 : ((l.setIfInBounds i true).setIfInBounds j true).getD k true = false := by rw [getD_set_ne true hjk, getD_set_ne true (Ne.symm hne)]; exact hk
        refine And.intro (fun _ => y2 k2) (Till.take hi hs hQ hki hne n _ a' w' (fun m om hm hmi hmu hmn => hf m om hm hmi ?_ hmn) (ready_mono hr (Ne.symm e)) y1 (y2 k2) k1 ?_)
        · by_cases hh : j = m
          · subst hh; exact hun
          · rw [getD_set_ne true hh] at hmu; exact hmu
        · rw [Array.setIfInBounds_comm _ _ e]
          exact y3
/-- The beginning. -/
theorem till_start {id : Nat} {a : Act} {w : World} (S : World → Prop) (k : Nat) (hm : P.follows .mixedOrders = true) (h : Till P .any ops Q S k ops.size (Array.replicate ops.size false) a w.drew) : (Code.region id ops true).wp P Q a w :=
  wp_region_any hm (Till.any _ h)
/-- A read is taken first: number k waits for it by its own word (hki). -/
theorem till_take {n : Nat} {l : Array Bool} {a : Act} {w : World} (i : Nat) (v : Value) {oi ok : Oper} {rest rest' : List Oper} (hi : ops.toList.drop i = oi :: rest) (hok : ops.toList.drop k = ok :: rest') (hs : Region.noSelect ops = true) (hf : Region.free md ops l i = true) (hr : (Region.ready md ops l).contains i = true)
    (hki : (ok.after.toList.any fun e => Region.binds md e && (e.on == i)) = true) (hne : (k == i) = false) (hk : l.getD k true = false) (hQ : ∀ c a w, Q (.panic c) (a.put oi.dst v) w → Q (.panic c) a w)
    (hw : Region.wanted oi (yielded ops a.tmps) = true) (hy : ∀ w, S w → (execOp a.eval oi).run P w = .ok (.value v) w) (hS : S w) (h : Till P md ops Q S k n (l.setIfInBounds i true) (a.put oi.dst v) w) : Till P md ops Q S k (n + 1) l a w := by
  refine Till.take (at_drop hi) hs hQ (fun o ho => ?_) (by simpa using hne) n l a w (Region.free_spec (at_drop hi) hf) (by simpa using hr) (.inl ⟨hw, hy⟩) hS hk h
  rw [at_drop hok] at ho
  injection ho with ho
  subst ho
  obtain ⟨e, he, hb⟩ := List.any_eq_true.1 hki
  simp only [Bool.and_eq_true, beq_iff_eq] at hb
  exact ⟨e, Array.mem_toList_iff.1 he, hb.1, hb.2⟩
/-- One alone may come up: it is carried out. -/
theorem till_one {n : Nat} {l : Array Bool} {a : Act} {w : World} (i : Nat) {oi : Oper} {rest : List Oper} (hi : ops.toList.drop i = oi :: rest) (hr : Region.ready md ops l = [i])
    (h : ∀ K : Act → World → Prop, (∀ a w, ((l.setIfInBounds i true).getD k true = false → S w) → Till P md ops Q S k n (l.setIfInBounds i true) a w → K a w) → if Region.wanted oi (yielded ops a.tmps) = true then Oper.wp P oi a w K Q else K (a.put oi.dst undef) w) : Till P md ops Q S k (n + 1) l a w := by
  refine ⟨fun h0 => (by rw [hr] at h0; cases h0), fun j hj => ?_⟩
  rw [hr, List.mem_singleton] at hj
  subst hj
  exact wpOp_step (at_drop hi) fun K hK => h K fun a w h1 h2 => hK a w ⟨h1, h2⟩
/-- One of two may come up. -/
theorem till_two {n : Nat} {l : Array Bool} {a : Act} {w : World} (i j : Nat) {oi oj : Oper} {rest rest' : List Oper} (hi : ops.toList.drop i = oi :: rest) (hj : ops.toList.drop j = oj :: rest') (hr : Region.ready md ops l = [i, j])
    (h : ∀ K : Act → World → Prop, (∀ a w, ((l.setIfInBounds i true).getD k true = false → S w) → Till P md ops Q S k n (l.setIfInBounds i true) a w → K a w) → if Region.wanted oi (yielded ops a.tmps) = true then Oper.wp P oi a w K Q else K (a.put oi.dst undef) w)
    (h' : ∀ K : Act → World → Prop, (∀ a w, ((l.setIfInBounds j true).getD k true = false → S w) → Till P md ops Q S k n (l.setIfInBounds j true) a w → K a w) → if Region.wanted oj (yielded ops a.tmps) = true then Oper.wp P oj a w K Q else K (a.put oj.dst undef) w) : Till P md ops Q S k (n + 1) l a w := by
  refine ⟨fun h0 => (by rw [hr] at h0; cases h0), fun m hm => ?_⟩
  rw [hr] at hm
  rcases List.mem_cons.1 hm with e | hm
  · subst e
    exact wpOp_step (at_drop hi) fun K hK => h K fun a w h1 h2 => hK a w ⟨h1, h2⟩
  · rw [List.mem_singleton] at hm
    subst hm
    exact wpOp_step (at_drop hj) fun K hK => h' K fun a w h1 h2 => hK a w ⟨h1, h2⟩
/-- All have come up. -/
theorem till_done {l : Array Bool} {a : Act} {w : World} (hr : Region.ready md ops l = []) (h : Q .normal a w) : ∀ n, Till P md ops Q S k n l a w
  | 0 => ⟨hr, h⟩
  | _ + 1 => ⟨fun _ => h, by rw [hr]; simp⟩
theorem getD_two {l : Array Bool} {m : Nat} (h1 : l.getD m false = true) (h2 : l.getD m true = false) : False := by
  rw [Array.getD_eq_getD_getElem?] at h1 h2
  cases hc : l[m]? with
  | none => rw [hc] at h1; cases h1
  | some b => rw [hc] at h1 h2; rw [show b = true from h1] at h2; cases h2
/-- Number k has come up: from here on another condition. -/
theorem till_held {S' : World → Prop} : ∀ (n : Nat) {l : Array Bool} {a : Act} {w : World}, l.getD k false = true → wpAnyH P md ops Q S' n l a w → Till P md ops Q S k n l a w
  | 0, _, _, _, _, h => h
  | n + 1, _, _, _, hk, h => ⟨h.1, fun i hi => wpOp_mono (fun _ _ t => ⟨fun hh => (getD_two (getD_set_true hk) hh).elim, till_held n (getD_set_true hk) t.2⟩) (h.2 i hi)⟩
end
end Go.Proofs.Ytclmdjkihijciaa
