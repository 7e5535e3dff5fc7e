/- What a ledger's acts make of it, in plain lists. -/
import Derived.Test.YtclmdjkihijciaaLedMath
namespace Go.Proofs.Ytclmdjkihijciaa
set_option linter.unusedVariables false
set_option linter.unusedSimpArgs false

namespace LedMath
def insE (L : List En) (b : En) : List En := L.filter (fun e => decide (e.a < b.a)) ++ b :: L.filter (fun e => decide (b.a ≤ e.a))
def addE (L : List En) (a n g : Nat) : Nat × List En := if mayE a n g = true then (if metL L a (max n 1) = true then (6, L) else (0, insE L ⟨a, n, g, false⟩)) else (2, L)
def dropE (L : List En) (x : Nat) : List En := L.filter fun e => !decide (e.a = x)
def putH (h : Bool) (e : En) : En := ⟨e.a, e.n, e.g, h⟩
def setE (L : List En) (x : Nat) (h : Bool) : List En := L.map fun e => if e.a = x then putH h e else e
def drop1 (L : List En) (x : Nat) : Nat × List En := match atL L x with
  | none => (5, L)
  | some _ => (0, dropE L x)
def hold1 (L : List En) (x : Nat) : Nat × List En := match atL L x with
  | none => (5, L)
  | some e => if e.h = true then (7, L) else (0, setE L x true)
def let1 (L : List En) (x : Nat) : Nat × List En := match atL L x with
  | none => (5, L)
  | some e => if e.h = true then (0, setE L x false) else (8, L)
def eachE (f : List En → Nat → Nat × List En) : List En → List Nat → Nat × List En
  | L, [] => (0, L)
  | L, x :: r => if (f L x).1 = 0 then eachE f (f L x).2 r else f L x
theorem mem_insE {L : List En} {b e : En} : e ∈ insE L b ↔ e = b ∨ e ∈ L := by
  unfold insE
  simp only [List.mem_append, List.mem_filter, List.mem_cons, decide_eq_true_eq]
  constructor
  · rintro (h | h | h)
    · exact .inr h.1
    · exact .inl h
    · exact .inr h.1
  · rintro (h | h)
    · exact .inr (.inl h)
    · rcases Nat.lt_or_ge e.a b.a with k | k
      · exact .inl ⟨h, k⟩
      · exact .inr (.inr ⟨h, k⟩)
theorem GoodL.ins {L : List En} (h : GoodL L) {b : En} (hb : mayE b.a b.n b.g = true) (hm : metL L b.a b.t = false) : GoodL (insE L b) := by
  have key : ∀ e ∈ L, (e.a < b.a → e.z ≤ b.a) ∧ (b.a ≤ e.a → b.z ≤ e.a) := by
    intro e he
    have h1 : ¬ (e.a < b.a + b.t ∧ b.a < e.z) := fun hh => by
      have : metL L b.a b.t = true := metL_iff.2 ⟨e, he, hh⟩
      rw [hm] at this; cases this
    have h2 := e.lt_z
    have h3 := b.lt_z
    have h4 : b.z = b.a + b.t := rfl
    omega
  refine ⟨?_, fun e he => ?_⟩
  · unfold insE
    rw [List.pairwise_append]
    refine ⟨h.apart.filter _, ?_, ?_⟩
    · rw [List.pairwise_cons]
      refine ⟨fun y hy => ?_, h.apart.filter _⟩
      obtain ⟨h1, h2⟩ := List.mem_filter.1 hy
      exact (key y h1).2 (of_decide_eq_true h2)
    · intro x hx y hy
      obtain ⟨h1, h2⟩ := List.mem_filter.1 hx
      have h2 := of_decide_eq_true h2
      rcases List.mem_cons.1 hy with rfl | hy
      · exact (key x h1).1 h2
      · obtain ⟨h3, h4⟩ := List.mem_filter.1 hy
        have h4 := of_decide_eq_true h4
        exact h.order h1 h3 (by omega)
  · rcases mem_insE.1 he with rfl | he
    · exact hb
    · exact h.may e he
theorem row_ins_same {L : List En} (h : GoodL L) (b : En) : rowOf (insE L b) (b.a / 1024) = (rowOf L (b.a / 1024)).take (aheadL (rowOf L (b.a / 1024)) b.a) ++ b :: (rowOf L (b.a / 1024)).drop (aheadL (rowOf L (b.a / 1024)) b.a) := by
  obtain ⟨h1, h2⟩ := split_rise (h.row (b.a / 1024)).rise b.a
  rw [← h1, ← h2]
  unfold insE rowOf
  rw [List.filter_append, List.filter_cons, if_pos (by simp)]
  simp only [List.filter_filter]
  congr 1
  · congr 1; funext e; exact Bool.and_comm _ _
  · congr 1; congr 1; funext e; exact Bool.and_comm _ _
theorem row_ins_other {L : List En} (h : GoodL L) (b : En) {s : Nat} (hs : s ≠ b.a / 1024) : rowOf (insE L b) s = rowOf L s := by
  obtain ⟨h1, h2⟩ := split_rise (h.row s).rise b.a
  have e : rowOf (insE L b) s = (rowOf L s).filter (fun e => decide (e.a < b.a)) ++ (rowOf L s).filter (fun e => decide (b.a ≤ e.a)) := by
    unfold insE rowOf
    rw [List.filter_append, List.filter_cons, if_neg (by simp; omega)]
    simp only [List.filter_filter]
    congr 1
    · congr 1; funext e; exact Bool.and_comm _ _
    · congr 1; funext e; exact Bool.and_comm _ _
  rw [e, h1, h2, List.take_append_drop]
theorem GoodL.drop {L : List En} (h : GoodL L) (x : Nat) : GoodL (dropE L x) := h.filter _
theorem strike_rise : ∀ {l : List En}, l.Pairwise (fun x y : En => x.a < y.a) → ∀ {i : Nat} {e : En}, l[i]? = some e → dropE l e.a = l.take i ++ l.drop (i + 1)
  | [], _, i, e, he => by simp at he
  | y :: l, h, 0, e, he => by
    rw [List.pairwise_cons] at h
    simp at he
    subst he
    have : (l.filter fun e => !decide (e.a = y.a)) = l := List.filter_eq_self.2 fun z hz => by have := h.1 z hz; simp; omega
    simp [dropE, List.filter_cons, this]
  | y :: l, h, i + 1, e, he => by
    rw [List.pairwise_cons] at h
    have he' : l[i]? = some e := by simpa using he
    have hlt := h.1 e (List.mem_of_getElem? he')
    have ih := strike_rise h.2 he'
    have hne : ¬ y.a = e.a := by omega
    unfold dropE at ih ⊢
    simp [List.filter_cons, hne, ih]
theorem row_drop {L : List En} (x s : Nat) : rowOf (dropE L x) s = dropE (rowOf L s) x := by
  unfold rowOf dropE
  simp only [List.filter_filter]
  congr 1; funext e; exact Bool.and_comm _ _
theorem row_drop_other {L : List En} {x s : Nat} (hs : s ≠ x / 1024) : rowOf (dropE L x) s = rowOf L s := by
  rw [row_drop]
  exact List.filter_eq_self.2 fun e he => by
    have := (mem_rowOf.1 he).2
    simp only [Bool.not_eq_true', decide_eq_false_iff_not]
    rintro rfl; exact hs this.symm
theorem putH_a (h : Bool) (e : En) : (putH h e).a = e.a := rfl
theorem GoodL.set {L : List En} (h : GoodL L) (x : Nat) (f : Bool) : GoodL (setE L x f) := by
  have key : ∀ e : En, (if e.a = x then putH f e else e).a = e.a ∧ (if e.a = x then putH f e else e).n = e.n ∧ (if e.a = x then putH f e else e).g = e.g := by
    intro e; split <;> exact ⟨rfl, rfl, rfl⟩
  refine ⟨?_, fun e he => ?_⟩
  · unfold setE
    rw [List.pairwise_map]
    refine h.apart.imp fun {p q} hpq => ?_
    obtain ⟨k1, k2, _⟩ := key p
    obtain ⟨k3, _, _⟩ := key q
    unfold En.z En.t at hpq ⊢
    rw [k1, k2, k3]; exact hpq
  · obtain ⟨p, hp, rfl⟩ := List.mem_map.1 he
    obtain ⟨k1, k2, k3⟩ := key p
    rw [k1, k2, k3]
    exact h.may p hp
theorem row_set {L : List En} (x s : Nat) (f : Bool) : rowOf (setE L x f) s = setE (rowOf L s) x f := by
  unfold rowOf setE
  rw [List.filter_map]
  congr 1
  congr 1
  funext e
  simp only [Function.comp]
  split <;> rfl
theorem set_other {l : List En} {x : Nat} (f : Bool) (h : ∀ e ∈ l, e.a ≠ x) : setE l x f = l := by
  unfold setE
  rw [List.map_congr_left (g := id) fun e he => by simp [h e he]]
  simp
theorem row_set_other {L : List En} {x s : Nat} (f : Bool) (hs : s ≠ x / 1024) : rowOf (setE L x f) s = rowOf L s := by
  rw [row_set]
  exact set_other f fun e he => by
    have := (mem_rowOf.1 he).2
    rintro rfl; exact hs this.symm
theorem set_rise : ∀ {l : List En}, l.Pairwise (fun x y : En => x.a < y.a) → ∀ {i : Nat} {e : En} (f : Bool), l[i]? = some e → setE l e.a f = l.set i (putH f e)
  | [], _, i, e, f, he => by simp at he
  | y :: l, h, 0, e, f, he => by
    rw [List.pairwise_cons] at h
    simp at he
    subst he
    have : setE l y.a f = l := set_other f fun z hz => by have := h.1 z hz; omega
    show (if y.a = y.a then putH f y else y) :: setE l y.a f = _
    rw [if_pos rfl, this]; rfl
  | y :: l, h, i + 1, e, f, he => by
    rw [List.pairwise_cons] at h
    have he' : l[i]? = some e := by simpa using he
    have hlt := h.1 e (List.mem_of_getElem? he')
    show (if y.a = e.a then putH f y else y) :: setE l e.a f = _
    rw [if_neg (by omega), set_rise h.2 f he']; rfl
end LedMath
end Go.Proofs.Ytclmdjkihijciaa
