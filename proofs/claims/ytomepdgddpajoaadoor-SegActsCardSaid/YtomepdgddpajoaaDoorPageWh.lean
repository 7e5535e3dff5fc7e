/- Pages (layer 9): who has which block: rows, posted ones, used ones. -/
import Derived.Test.YtomepdgddpajoaaDoorPageMath
namespace Go.Proofs.YtomepdgddpajoaaDoor.PageMath
open ListMath GeoMath MemMath
set_option linter.unusedVariables false

/-- The page's users have U; P is posted. -/
structure Wh (L : List Nat) (S : PG) (U P : List Nat) : Prop where
  cP : Chain L S.cw P
  inP : ∀ a ∈ P, IsBlk S.f S.s S.made a
  inU : ∀ a ∈ U, IsBlk S.f S.s S.made a
  nd : (S.F ++ (S.G ++ (P ++ U))).Nodup
  add : S.made = S.F.length + S.G.length + S.used
  use : S.used = U.length + P.length
theorem Wh.new (L : List Nat) (f s n : Nat) : Wh L (newPG f s n) [] [] := ⟨rfl, (by intro a h; cases h), (by intro a h; cases h), List.nodup_nil, rfl, rfl⟩
theorem Wh.perm {L : List Nat} {S : PG} {U V P : List Nat} (h : Wh L S U P) (e : U.Perm V) : Wh L S V P :=
  ⟨h.cP, h.inP, fun a ha => h.inU a (e.mem_iff.2 ha), (((e.append_left P).append_left S.G).append_left S.F).nodup_iff.1 h.nd, h.add, by rw [← e.length_eq]; exact h.use⟩
theorem Wh.ask {L : List Nat} {S : PG} {U P : List Nat} (h : Wh L S U P) : Wh L S.asked U P := ⟨h.cP, h.inP, h.inU, h.nd, h.add, h.use⟩
theorem GoodP.ask {L : List Nat} {S : PG} (h : GoodP L S) : GoodP L S.asked := ⟨h.f0, h.s16, h.n1, h.n2, h.fit, h.big, h.made, h.cF, h.cG, h.inF, h.inG, h.nd⟩
theorem GoodP.wrote {L : List Nat} {S : PG} (h : GoodP L S) (x : Nat) : GoodP L (S.wrote x) := ⟨h.f0, h.s16, h.n1, h.n2, h.fit, h.big, h.made, h.cF, h.cG, h.inF, h.inG, h.nd⟩
/-- Whatever is laid into blocks that aren't free. -/
theorem GoodP.agree {L L' X : List Nat} {S : PG} (g : GoodP L S) (e : Agree L L' X) (hX : ∀ x ∈ X, IsBlk S.f S.s S.made x ∧ x ∉ S.F ∧ x ∉ S.G) : GoodP L' S :=
  ⟨g.f0, g.s16, g.n1, g.n2, by rw [e.1]; exact g.fit, by rw [e.1]; exact g.big, g.made,
    Chain.agree e g.cF fun b hb x hx => (hX x hx).1.apart8 g.s16 (g.inF b hb) (by rintro rfl; exact (hX _ hx).2.1 hb),
    Chain.agree e g.cG fun b hb x hx => (hX x hx).1.apart8 g.s16 (g.inG b hb) (by rintro rfl; exact (hX _ hx).2.2 hb), g.inF, g.inG, g.nd⟩
/-- No two of the four rows meet. -/
theorem Wh.ne {L : List Nat} {S : PG} {U P : List Nat} (h : Wh L S U P) :
    (∀ a ∈ U, a ∉ S.F ∧ a ∉ S.G ∧ a ∉ P) ∧ (∀ a ∈ P, a ∉ S.F ∧ a ∉ S.G) := by
  have h1 := List.nodup_append.1 h.nd
  have h2 := List.nodup_append.1 h1.2.1
  have h3 := List.nodup_append.1 h2.2.1
  refine ⟨fun a ha => ⟨fun x => ?_, fun x => ?_, fun x => ?_⟩, fun a ha => ⟨fun x => ?_, fun x => ?_⟩⟩
  · exact h1.2.2 a x a (List.mem_append_right _ (List.mem_append_right _ ha)) rfl
  · exact h2.2.2 a x a (List.mem_append_right _ ha) rfl
  · exact h3.2.2 a x a ha rfl
  · exact h1.2.2 a x a (List.mem_append_right _ (List.mem_append_left _ ha)) rfl
  · exact h2.2.2 a x a (List.mem_append_left _ ha) rfl
theorem Wh.ndU {L : List Nat} {S : PG} {U P : List Nat} (h : Wh L S U P) : U.Nodup ∧ P.Nodup := by
  have h1 := List.nodup_append.1 h.nd
  have h2 := List.nodup_append.1 h1.2.1
  have h3 := List.nodup_append.1 h2.2.1
  exact ⟨h3.2.1, h3.1⟩
theorem Wh.fits {L : List Nat} {S : PG} {U P : List Nat} (g : GoodP L S) (h : Wh L S U P) {a : Nat} (ha : a ∈ U) : a ≠ 0 ∧ a + S.s ≤ L.length ∧ a + 8 ≤ L.length := by
  have h1 := (h.inU a ha).fits g.made g.fit
  have h2 := g.s16
  exact ⟨(h.inU a ha).pos g.f0, h1, by omega⟩
/-- What hangs on the cell's word is what was posted. -/
theorem Wh.chain {L : List Nat} {S : PG} {U P : List Nat} (g : GoodP L S) (h : Wh L S U P) : chainN L S.cw (S.n : Int) = some P ∧ P.length ≤ S.used ∧ S.used ≤ S.n := by
  have h1 := h.use; have h2 := h.add; have h3 := g.made; have h4 := g.fit; have h5 := g.s16
  have h6 := Nat.mul_le_mul_left S.n h5
  refine ⟨?_, by omega, by omega⟩
  unfold chainN
  rw [Int.toNat_natCast]
  exact rowF_chain h.cP (by omega)
theorem Wh.word {L : List Nat} {S : PG} {U P : List Nat} (g : GoodP L S) (h : Wh L S U P) : S.cw ≤ 1048576 ∧ (P = [] ↔ S.cw = 0) := by
  refine ⟨h.cP.head_le g.big, ?_⟩
  have hc := h.cP
  cases P with
  | nil => exact ⟨fun _ => hc, fun _ => rfl⟩
  | cons a t =>
    obtain ⟨e, h0, _⟩ := hc
    exact ⟨fun x => (by cases x), fun x => absurd (e ▸ x) h0⟩

/-! ### Alloc -/
theorem refill_some {S : PG} (h : S.F ≠ []) : refill S = S ∧ newsOf S = [] := by
  unfold refill newsOf; rw [if_pos h, if_neg (fun x => h x.1)]; exact ⟨rfl, rfl⟩
theorem refill_local {S : PG} (h : S.F = []) (h2 : S.G ≠ []) : refill S = { S with F := S.G, G := [] } ∧ newsOf S = [] := by
  unfold refill newsOf; rw [if_neg (fun x => x h), if_pos h2, if_neg (fun x => h2 x.2)]; exact ⟨rfl, rfl⟩
theorem refill_more {S : PG} (h : S.F = []) (h2 : S.G = []) : refill S = { S with F := news S.f S.s S.made (min 4 (S.n - S.made)), made := S.made + min 4 (S.n - S.made) } ∧ newsOf S = news S.f S.s S.made (min 4 (S.n - S.made)) := by
  unfold refill newsOf moreN; rw [if_neg (fun x => x h), if_neg (fun x => x h2), if_pos ⟨h, h2⟩, if_pos ⟨h, h2⟩]; exact ⟨rfl, rfl⟩
theorem Wh.refilled {L L' : List Nat} {S : PG} {U P : List Nat} (g : GoodP L S) (h : Wh L S U P) (e : Agree L L' (newsOf S)) : Wh L' (refill S) U P := by
  by_cases h1 : S.F = []
  · by_cases h2 : S.G = []
    · obtain ⟨e1, e2⟩ := refill_more h1 h2
      rw [e2] at e
      rw [e1]
      have hs : 1 ≤ S.s := by have := g.s16; omega
      have hmade : S.made + min 4 (S.n - S.made) ≤ S.n := by have := g.made; omega
      refine ⟨?_, fun a ha => (h.inP a ha).mono (by simp), fun a ha => (h.inU a ha).mono (by simp), ?_, ?_, h.use⟩
      · refine Chain.agree e h.cP fun b hb x hx => ?_
        exact (news_blk hx).apart8 g.s16 (h.inP b hb) (by rintro rfl; exact news_new hs hx (h.inP _ hb))
      · have := h.nd
        rw [h1, h2, List.nil_append, List.nil_append] at this
        show (news S.f S.s S.made _ ++ (S.G ++ (P ++ U))).Nodup
        rw [h2, List.nil_append, List.nodup_append]
        refine ⟨news_nodup hs, this, fun a ha b hb hab => ?_⟩
        subst hab
        rcases List.mem_append.1 hb with hb | hb
        · exact news_new hs ha (h.inP _ hb)
        · exact news_new hs ha (h.inU _ hb)
      · have := h.add
        rw [h1, h2] at this
        show S.made + _ = (news S.f S.s S.made _).length + S.G.length + S.used
        rw [news_len, h2]
        simp at this ⊢
        omega
    · obtain ⟨e1, e2⟩ := refill_local h1 h2
      rw [e2] at e
      rw [e1]
      refine ⟨Chain.agree e h.cP (fun b _ x hx => by cases hx), h.inP, h.inU, ?_, ?_, h.use⟩
      · have := h.nd; rw [h1] at this; exact this
      · have := h.add; rw [h1] at this; simp at this ⊢; omega
  · obtain ⟨e1, e2⟩ := refill_some h1
    rw [e2] at e
    rw [e1]
    exact ⟨Chain.agree e h.cP (fun b _ x hx => by cases hx), h.inP, h.inU, h.nd, h.add, h.use⟩
theorem Wh.pop {L : List Nat} {S : PG} {U P : List Nat} (h : Wh L S U P) {a : Nat} {t : List Nat} (hF : S.F = a :: t) (hin : IsBlk S.f S.s S.made a) : Wh L { S with F := t, used := S.used + 1 } (U ++ [a]) P ∧ a ∉ U ∧ a ∉ P := by
  have hnd := h.nd
  rw [hF, List.cons_append, List.nodup_cons] at hnd
  have hn : a ∉ U ∧ a ∉ P := ⟨fun x => hnd.1 (List.mem_append_right _ (List.mem_append_right _ (List.mem_append_right _ x))), fun x => hnd.1 (List.mem_append_right _ (List.mem_append_right _ (List.mem_append_left _ x)))⟩
  refine ⟨⟨h.cP, h.inP, fun b hb => ?_, ?_, ?_, ?_⟩, hn⟩
  · rcases List.mem_append.1 hb with hb | hb
    · exact h.inU b hb
    · rw [List.mem_singleton.1 hb]; exact hin
  · have e : (t ++ (S.G ++ (P ++ (U ++ [a])))).Perm (a :: (t ++ (S.G ++ (P ++ U)))) := by
      rw [show t ++ (S.G ++ (P ++ (U ++ [a]))) = (t ++ (S.G ++ (P ++ U))) ++ [a] by simp [List.append_assoc]]
      exact List.perm_append_singleton a _
    exact e.nodup_iff.2 (List.nodup_cons.2 hnd)
  · have := h.add; rw [hF] at this; simp only [List.length_cons] at this; show S.made = t.length + S.G.length + (S.used + 1); omega
  · have := h.use; simp only [List.length_append, List.length_singleton]; omega
theorem refill_good {L : List Nat} {S : PG} (g : GoodP L S) : (∀ a ∈ (refill S).F, IsBlk S.f S.s (refill S).made a) ∧ (refill S).made ≤ S.n ∧ (refill S).f = S.f ∧ (refill S).s = S.s ∧ (refill S).n = S.n := by
  by_cases h1 : S.F = []
  · by_cases h2 : S.G = []
    · rw [(refill_more h1 h2).1]
      exact ⟨fun a ha => news_blk ha, by have := g.made; show S.made + min 4 (S.n - S.made) ≤ S.n; omega, rfl, rfl, rfl⟩
    · rw [(refill_local h1 h2).1]; exact ⟨g.inG, g.made, rfl, rfl, rfl⟩
  · rw [(refill_some h1).1]; exact ⟨g.inF, g.made, rfl, rfl, rfl⟩
/-- Alloc: the one that comes is new to its users; or there is none, and all are made. -/
theorem Wh.alloc {L L' : List Nat} {S S' : PG} {U P : List Nat} {a : Nat} {e : Int} (g : GoodP L S) (h : Wh L S U P) (hA : allocP S = (S', a, e)) (hL : Agree L L' (newsOf S)) :
    (e = 0 ∧ Wh L' S' (U ++ [a]) P ∧ a ∉ U ∧ a ∉ P ∧ (∃ t, (refill S).F = a :: t ∧ S' = { refill S with F := t, used := S.used + 1 })) ∨ (e = 4 ∧ a = 0 ∧ S' = S ∧ S.F = [] ∧ S.G = [] ∧ S.made = S.n ∧ newsOf S = []) := by
  unfold allocP at hA
  have hw := h.refilled g hL
  have hg := refill_good g
  have hu : (refill S).used = S.used := by unfold refill; split <;> first | rfl | (split <;> rfl)
  cases hF : (refill S).F with
  | nil =>
    rw [hF] at hA
    simp only [Prod.mk.injEq] at hA
    obtain ⟨rfl, rfl, rfl⟩ := hA
    refine Or.inr ⟨rfl, rfl, rfl, ?_⟩
    by_cases h1 : S.F = []
    · by_cases h2 : S.G = []
      · rw [(refill_more h1 h2).1] at hF
        have : (news S.f S.s S.made (min 4 (S.n - S.made))).length = 0 := by
          have hF' : news S.f S.s S.made (min 4 (S.n - S.made)) = [] := hF
          rw [hF']; rfl
        rw [news_len] at this
        refine ⟨h1, h2, by have := g.made; omega, ?_⟩
        rw [(refill_more h1 h2).2]; exact hF
      · rw [(refill_local h1 h2).1] at hF; exact absurd hF h2
    · rw [(refill_some h1).1] at hF; exact absurd hF h1
  | cons x t =>
    rw [hF] at hA
    simp only [Prod.mk.injEq] at hA
    obtain ⟨rfl, rfl, rfl⟩ := hA
    have hb : IsBlk (refill S).f (refill S).s (refill S).made x := by rw [hg.2.2.1, hg.2.2.2.1]; exact hg.1 x (by rw [hF]; exact List.mem_cons_self ..)
    obtain ⟨p1, p2, p3⟩ := hw.pop hF hb
    rw [hu] at p1
    exact Or.inl ⟨rfl, p1, p2, p3, t, rfl, rfl⟩

/-! ### Free, Post, Gather -/
theorem Wh.free {L L' : List Nat} {S : PG} {U P : List Nat} {a : Nat} (g : GoodP L S) (h : Wh L S (a :: U) P) (hL : Agree L L' [a]) : free1 S a = ({ S with G := a :: S.G, used := S.used - 1 }, 0) ∧ Wh L' { S with G := a :: S.G, used := S.used - 1 } U P := by
  have hb := h.inU a (List.mem_cons_self ..)
  have hu := h.use
  simp only [List.length_cons] at hu
  have hne := h.ne.1 a (List.mem_cons_self ..)
  refine ⟨?_, ?_, h.inP, fun x hx => h.inU x (List.mem_cons_of_mem _ hx), ?_, ?_, ?_⟩
  · unfold free1; rw [given_blk g hb, if_neg (fun x => x rfl), if_neg (by omega)]
  · exact Chain.agree hL h.cP fun b hb2 x hx => by
      rw [List.mem_singleton.1 hx]
      exact hb.apart8 g.s16 (h.inP b hb2) (by rintro rfl; exact hne.2.2 hb2)
  · have e : (S.F ++ (S.G ++ (P ++ a :: U))).Perm (S.F ++ (a :: S.G ++ (P ++ U))) := by
      refine List.Perm.append_left _ ?_
      rw [← List.append_assoc, List.cons_append, ← List.append_assoc]
      exact List.perm_middle
    exact e.nodup_iff.1 h.nd
  · have := h.add; show S.made = S.F.length + (a :: S.G).length + (S.used - 1); simp only [List.length_cons]; omega
  · show S.used - 1 = U.length + P.length; omega
theorem Wh.post {L : List Nat} {S : PG} {U P : List Nat} {a : Nat} (g : GoodP L S) (h : Wh L S (a :: U) P) : Wh (put8 L a S.cw) (S.wrote a) U (a :: P) := by
  have hb := h.inU a (List.mem_cons_self ..)
  have hne := h.ne.1 a (List.mem_cons_self ..)
  have hf := h.fits g (List.mem_cons_self ..)
  have hw := (h.word g).1
  refine ⟨?_, fun x hx => ?_, fun x hx => h.inU x (List.mem_cons_of_mem _ hx), ?_, h.add, ?_⟩
  · exact Chain.push h.cP hf.1 hf.2.2 (fun b hb2 => hb.apart8 g.s16 (h.inP b hb2) (by rintro rfl; exact hne.2.2 hb2)) (by omega)
  · rcases List.mem_cons.1 hx with rfl | hx
    · exact hb
    · exact h.inP x hx
  · have e : (S.F ++ (S.G ++ (P ++ a :: U))).Perm (S.F ++ (S.G ++ (a :: P ++ U))) := by
      refine List.Perm.append_left _ (List.Perm.append_left _ ?_)
      rw [List.cons_append]
      exact List.perm_middle
    exact e.nodup_iff.1 h.nd
  · have := h.use; simp only [List.length_cons] at this ⊢; show S.used = _; omega
/-- A link is laid, and nothing posted. -/
theorem Wh.late {L L' : List Nat} {S : PG} {U P : List Nat} {a : Nat} (g : GoodP L S) (h : Wh L S U P) (ha : a ∈ U) (hL : Agree L L' [a]) : Wh L' S.asked U P := by
  have hb := h.inU a ha
  have hne := h.ne.1 a ha
  refine ⟨?_, h.inP, h.inU, h.nd, h.add, h.use⟩
  exact Chain.agree hL h.cP fun b hb2 x hx => by
    rw [List.mem_singleton.1 hx]
    exact hb.apart8 g.s16 (h.inP b hb2) (by rintro rfl; exact hne.2.2 hb2)
theorem Wh.gather {L L' : List Nat} {S : PG} {U P : List Nat} (h : Wh L S U P) : Wh L' (gathP S P) U [] := by
  have hu := h.use
  refine ⟨rfl, (by intro a h; cases h), h.inU, ?_, ?_, ?_⟩
  · have e : (S.F ++ (S.G ++ (P ++ U))).Perm (S.F ++ ((P ++ S.G) ++ ([] ++ U))) := by
      refine List.Perm.append_left _ ?_
      rw [← List.append_assoc, List.nil_append]
      exact List.Perm.append_right _ List.perm_append_comm
    exact e.nodup_iff.1 h.nd
  · have := h.add; show S.made = S.F.length + (P ++ S.G).length + (S.used - P.length); rw [List.length_append]; omega
  · show S.used - P.length = U.length + ([] : List Nat).length; simp only [List.length_nil]; omega
end Go.Proofs.YtomepdgddpajoaaDoor.PageMath
