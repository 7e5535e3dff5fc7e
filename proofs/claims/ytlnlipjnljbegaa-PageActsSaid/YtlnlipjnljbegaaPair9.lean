/- Layer 9: the program's page and the document's, side by side. -/
import Derived.Test.YtlnlipjnljbegaaRefP9c
import Derived.Test.YtlnlipjnljbegaaLasts9
namespace Go.Proofs.Ytlnlipjnljbegaa.PageMath
open ListMath GeoMath MemMath
set_option linter.unusedVariables false
theorem nodup_le : ∀ {l m : List Nat}, l.Nodup → (∀ x ∈ l, x ∈ m) → l.length ≤ m.length
  | [], m, _, _ => Nat.zero_le _
  | a :: t, m, hn, hs => by
    obtain ⟨m1, m2, rfl⟩ := List.append_of_mem (hs a (List.mem_cons_self ..))
    have h1 := List.nodup_cons.1 hn
    have := nodup_le (l := t) (m := m1 ++ m2) h1.2 fun x hx => by
      have h2 := hs x (List.mem_cons_of_mem _ hx)
      rcases List.mem_append.1 h2 with h3 | h3
      · exact List.mem_append_left _ h3
      · rcases List.mem_cons.1 h3 with rfl | h3
        · exact absurd hx h1.1
        · exact List.mem_append_right _ h3
    simp only [List.length_append, List.length_cons] at this ⊢
    omega
theorem nodup_all {l m : List Nat} (hn : l.Nodup) (hs : ∀ x ∈ l, x ∈ m) (hl : m.length ≤ l.length) {a : Nat} (ha : a ∈ m) : a ∈ l := by
  by_cases h : a ∈ l
  · exact h
  · have := nodup_le (l := a :: l) (m := m) (List.nodup_cons.2 ⟨h, hn⟩) fun x hx => by
      rcases List.mem_cons.1 hx with rfl | hx
      · exact ha
      · exact hs x hx
    simp only [List.length_cons] at this
    omega
/-- A block that was made is in one of the rows, or used. -/
theorem Wh.all {L : List Nat} {S : PG} {U P : List Nat} (g : GoodP L S) (h : Wh L S U P) {a : Nat} (ha : IsBlk S.f S.s S.made a) : a ∈ U ∨ a ∈ S.F ∨ a ∈ S.G ∨ a ∈ P := by
  have hin : ∀ b, IsBlk S.f S.s S.made b → b ∈ news S.f S.s 0 S.made := fun b hb => by
    obtain ⟨i, hi, rfl⟩ := hb
    exact List.mem_map.2 ⟨i, List.mem_range.2 hi, by rw [Nat.zero_add]⟩
  have := nodup_all (l := S.F ++ (S.G ++ (P ++ U))) (m := news S.f S.s 0 S.made) h.nd (fun x hx => by
    rcases List.mem_append.1 hx with h1 | h1
    · exact hin x (g.inF x h1)
    · rcases List.mem_append.1 h1 with h2 | h2
      · exact hin x (g.inG x h2)
      · rcases List.mem_append.1 h2 with h3 | h3
        · exact hin x (h.inP x h3)
        · exact hin x (h.inU x h3)) (by
    have h1 := h.add; have h2 := h.use
    rw [news_len]
    simp only [List.length_append]; omega) (hin a ha)
  rcases List.mem_append.1 this with h1 | h1
  · exact Or.inr (Or.inl h1)
  · rcases List.mem_append.1 h1 with h2 | h2
    · exact Or.inr (Or.inr (Or.inl h2))
    · rcases List.mem_append.1 h2 with h3 | h3
      · exact Or.inr (Or.inr (Or.inr h3))
      · exact Or.inl h3
theorem given_else {L : List Nat} {S : PG} {U P : List Nat} (g : GoodP L S) (h : Wh L S U P) {a : Nat} (h1 : a ∉ U) (h2 : a ∉ S.F) (h3 : a ∉ S.G) (h4 : a ∉ P) : givenE S a ≠ 0 := by
  intro e
  rcases h.all g (given_not g e) with x | x | x | x
  · exact h1 x
  · exact h2 x
  · exact h3 x
  · exact h4 x
end Go.Proofs.Ytlnlipjnljbegaa.PageMath
namespace Go.Proofs.Ytlnlipjnljbegaa
open Go.RowKit Go.Maps ListMath PageMath GeoMath
set_option linter.unusedVariables false

theorem fit_of {L : List Nat} {S : PG} {U P : List Nat} (g : GoodP L S) (h : Wh L S U P) (hct : S.ct ≤ 1000000) (hca : S.ca ≤ 1000000) : FitP S := by
  have h1 := g.may
  have h2 := may_iff.1 h1
  have h3 := h.add; have h4 := g.made; have h5 := g.n2
  exact ⟨h1, by omega, by omega, by omega, h4, by omega, hct, hca, by omega, by omega⟩
theorem FitP.ask {S : PG} (f : FitP S) (h : S.ca + 1 ≤ 1000000) : FitP S.asked := ⟨f.may, f.f, f.s, f.n, f.made, f.used, f.ct, h, f.lF, f.lG⟩
/-- The program's page in state S, its users U, P posted; the document's in state S2, with P2. -/
structure PB (w : World) (C : PgC w) (pp p g : Nat) (O : Nat → Prop) (nb : Nat) (c : Addr) (q : Nat) (A : Nat → Prop) (U P L : List Nat) (S S2 : PG) (P2 : List Nat) (w' : World) : Prop where
  has : Has C pp p g O nb c L S w'
  wh : Wh L S U P
  rp : RP A w' q S2 P2
  hq : nb ≤ q
  hO : ∀ b, O b → A b
  hA : ∀ b, A b → b < w'.heap.size
section
variable {w : World} {C : PgC w} {pp p g nb q : Nat} {O A : Nat → Prop} {c : Addr} {U V P Q L M : List Nat} {S T S2 S3 : PG} {P2 P3 : List Nat} {w' w2 : World}
theorem PB.page (h : PB w C pp p g O nb c q A U P L S S2 P2 w') (k : Has C pp p g O nb c M T w2) (hw : Wh M T V Q) (u : Upd O w' w2) : PB w C pp p g O nb c q A V Q M T S2 P2 w2 :=
  ⟨k, hw, h.rp.upd u h.hO, h.hq, h.hO, fun b hb => Nat.lt_of_lt_of_le (h.hA b hb) u.size⟩
theorem PB.ref (h : PB w C pp p g O nb c q A U P L S S2 P2 w') (r : RP A w2 q S3 P3) (u : Upd (fun b => b = q) w' w2) : PB w C pp p g O nb c q A U P L S S3 P3 w2 :=
  ⟨h.has.upd u h.has.low (fun b hb => by rw [hb]; exact h.hq), h.wh, r, h.hq, h.hO, fun b hb => Nat.lt_of_lt_of_le (h.hA b hb) u.size⟩
theorem PB.grew (h : PB w C pp p g O nb c q A U P L S S2 P2 w') (hb : Below w'.heap.size w' w2) : PB w C pp p g O nb c q A U P L S S2 P2 w2 :=
  ⟨h.has.grew hb, h.wh, h.rp.grew hb, h.hq, h.hO, fun b hA => Nat.lt_of_lt_of_le (h.hA b hA) hb.size⟩
theorem PB.alloc (h : PB w C pp p g O nb c q A U P L S S2 P2 w') (o : Obj) : PB w C pp p g O nb c q A U P L S S2 P2 (w'.alloc o) := h.grew ((Below.refl _ w').alloc (Nat.le_refl _) o)
theorem PB.good (h : PB w C pp p g O nb c q A U P L S S2 P2 w') : GoodP L S := C.good h.has.pg
/-- The law's own row, anew in blocks that are new. -/
theorem PB.row {A' : Nat → Prop} (h : PB w C pp p g O nb c q A U P L S S2 P2 w') (hb : Below w'.heap.size w' w2) (hO : ∀ b, O b → A' b) (hA : ∀ b, A' b → O b ∨ (w'.heap.size ≤ b ∧ b < w2.heap.size)) : PB w C pp p g O nb c q A' U P L S S2 P2 w2 := by
  refine ⟨h.has.grew hb, h.wh, (h.rp.re fun b hb => ?_).grew hb, h.hq, hO, fun b hb2 => ?_⟩
  · rcases hA b hb with x | x
    · exact Or.inl (h.hO b x)
    · exact Or.inr x.1
  · rcases hA b hb2 with x | x
    · exact Nat.lt_of_lt_of_le (h.hA b (h.hO b x)) hb.size
    · exact x.2
/-- Behind an append onto it. -/
theorem PB.app {v v' : Value} (h : PB w C pp p g O nb c q (fun b => O b ∨ In v b) U P L S S2 P2 w') (u : Upd (In v) w' w2) (hin : ∀ b, In v' b → In v b ∨ w'.heap.size ≤ b) (hlt : ∀ b, In v' b → b < w2.heap.size) (hfar : ∀ b, In v b → nb ≤ b) : PB w C pp p g O nb c q (fun b => O b ∨ In v' b) U P L S S2 P2 w2 := by
  refine ⟨h.has.upd u h.has.low hfar, h.wh, ?_, h.hq, fun b x => Or.inl x, fun b hb => ?_⟩
  · have h1 := h.rp.re (A' := fun b => (O b ∨ In v b) ∨ (O b ∨ In v' b)) (fun b hb => by
      rcases hb with x | x | x
      · exact Or.inl x
      · exact Or.inl (Or.inl x)
      · rcases hin b x with y | y
        · exact Or.inl (Or.inr y)
        · exact Or.inr y)
    exact (h1.upd u fun b hb => Or.inl (Or.inr hb)).re fun b hb => Or.inl (Or.inr hb)
  · rcases hb with x | x
    · exact Nat.lt_of_lt_of_le (h.hA b (Or.inl x)) u.size
    · exact hlt b x
theorem refill_u64 {L : List Nat} {S : PG} (g : GoodP L S) : ∀ x ∈ (refill S).F, U64B x := fun x hx => by
  have h := refill_good g
  have h1 := (h.1 x hx).fits h.2.1 g.fit
  have h2 := g.big
  show x ≤ _; omega
theorem alloc_counts (S : PG) : (allocP S).1.ct = S.ct ∧ (allocP S).1.ca = S.ca := by
  have hp := refill_parts S
  unfold allocP
  split
  · exact ⟨rfl, rfl⟩
  · exact ⟨hp.2.2.2.2.1, hp.2.2.2.2.2⟩
theorem pb_gather (h : PB w C pp p g O nb c q A U P L S S2 P2 w') : Calls Try.prog 15 #[.pointer (some ⟨pp, 0, none⟩)] w' fun e w2 => ∃ L', e = .returned (.tuple #[.int .i64 (P.length : Int), .int .i64 0]) ∧ PB w C pp p g O nb c q A U [] L' (gathP S P) S2 P2 w2 ∧ Upd O w' w2 := by
  have hc := h.wh.chain h.good
  refine (has_gather h.has hc.1 hc.2.1 (fun x hx => ⟨h.wh.inP x hx, h.wh.ne.2 x hx⟩) h.wh.ndU.2).mono ?_
  rintro e w2 ⟨L', rfl, hh, ha, hu⟩
  exact ⟨L', rfl, h.page hh h.wh.gather hu, hu⟩
theorem pb_rgather (h : PB w C pp p g O nb c q A U P L S S2 P2 w') (f : FitP S2) (hP : P2.length ≤ S2.used) : Calls Try.prog 16 #[.pointer (some ⟨q, 0, none⟩)] w' fun e w2 => e = .returned (.int .i64 (P2.length : Int)) ∧ PB w C pp p g O nb c q A U P L S (gathP S2 P2) [] w2 ∧ Upd (fun b => b = q) w' w2 :=
  (refp_gather w' h.rp f hP h.hA).mono fun e w2 ⟨h1, h2, h3⟩ => ⟨h1, h.ref h2 h3, h3⟩
/-- The users, behind an Alloc. -/
def gotU (U : List Nat) (z : PG × Nat × Int) : List Nat := if z.2.2 = 0 then U ++ [z.2.1] else U
theorem pb_alloc (h : PB w C pp p g O nb c q A U P L S S2 P2 w') : Calls Try.prog 22 #[.pointer (some ⟨pp, 0, none⟩)] w' fun e w2 => ∃ L', e = .returned (.tuple #[.int .u64 ((allocP S).2.1 : Int), .int .i64 (allocP S).2.2]) ∧ PB w C pp p g O nb c q A (gotU U (allocP S)) P L' (allocP S).1 S2 P2 w2 ∧ Upd O w' w2 := by
  refine (has_alloc h.has).mono ?_
  rintro e w2 ⟨L', rfl, hh, ha, hu⟩
  obtain ⟨⟨S', a, e⟩, hA⟩ : ∃ z, allocP S = z := ⟨_, rfl⟩
  rw [hA] at hh ⊢
  refine ⟨L', rfl, h.page hh ?_ hu, hu⟩
  unfold gotU
  rcases h.wh.alloc h.good hA ha with ⟨rfl, hw, _⟩ | ⟨rfl, rfl, rfl, _, _, _, hnew⟩
  · rw [if_pos rfl]; exact hw
  · rw [if_neg (show ¬ (4 : Int) = 0 by decide)]
    exact ⟨Chain.agree ha h.wh.cP (fun b _ x hx => by rw [hnew] at hx; cases hx), h.wh.inP, h.wh.inU, h.wh.nd, h.wh.add, h.wh.use⟩
theorem pb_ralloc (h : PB w C pp p g O nb c q A U P L S S2 P2 w') (f : FitP S2) (hx : ∀ x ∈ (refill S2).F, U64B x) : Calls Try.prog 23 #[.pointer (some ⟨q, 0, none⟩)] w' fun e w2 => e = .returned (.tuple #[.int .u64 ((allocP S2).2.1 : Int), .int .i64 (allocP S2).2.2]) ∧ PB w C pp p g O nb c q A U P L S (allocP S2).1 P2 w2 ∧ Upd (fun b => b = q) w' w2 :=
  (refp_alloc w' h.rp f hx h.hA).mono fun e w2 ⟨h1, h2, h3⟩ => ⟨h1, h.ref h2 h3, h3⟩
/-- The state behind a Free of one that may be. -/
def freed1 (S : PG) (x : Nat) : PG := { S with G := x :: S.G, used := S.used - 1 }
theorem pb_free {x : Nat} {R : List Nat} (h : PB w C pp p g O nb c q A U P L S S2 P2 w') (hp : U.Perm (x :: R)) {b : Nat} (hq : Seq Elem.u64s w' (.slice (some ⟨b, 0, none⟩) 1 1) [x]) (hb : nb ≤ b) :
    Calls Try.prog 19 #[.pointer (some ⟨pp, 0, none⟩), .slice (some ⟨b, 0, none⟩) 1 1] w' fun e w2 => ∃ L', e = .returned (.int .i64 0) ∧ PB w C pp p g O nb c q A R P L' (freed1 S x) S2 P2 w2 ∧ Upd O w' w2 := by
  have hg := h.good
  have hw := h.wh.perm hp
  have hn := hw.ne.1 x (List.mem_cons_self ..)
  have hf := hw.fits hg (List.mem_cons_self ..)
  have hbig := hg.big
  refine (has_free h.has hq (fun k hk => h.has.out (by have := in_blk hk; omega)) (by decide) (by decide) (by decide) (fun a ha => by rw [List.mem_singleton.1 ha]; show x ≤ _; omega) (by simp) (fun a ha => by rw [List.mem_singleton.1 ha]; exact ⟨hn.1, hn.2.1⟩)).mono ?_
  rintro e w2 ⟨L', rfl, hh, ha, hu⟩
  obtain ⟨e1, hw'⟩ := hw.free hg ha
  have e2 : freeP S [x] = (freed1 S x, 0) := by
    show (if (free1 S x).2 = 0 then freeP (free1 S x).1 [] else free1 S x) = _
    rw [e1]; rfl
  rw [e2] at hh ⊢
  exact ⟨L', rfl, h.page hh hw' hu, hu⟩
theorem pb_back {x : Nat} (h : PB w C pp p g O nb c q A U P L S S2 P2 w') (f : FitP S2) (hx : U64B x) (hg : givenE S2 x = 0) (hu : 0 < S2.used) :
    Calls Try.prog 49 #[.pointer (some ⟨q, 0, none⟩), .int .u64 (x : Int)] w' fun e w2 => e = .returned (.int .i64 0) ∧ PB w C pp p g O nb c q A U P L S (freed1 S2 x) P2 w2 ∧ Upd (fun b => b = q) w' w2 :=
  (refp_back w' h.rp f x hx hg hu h.hA).mono fun e w2 ⟨h1, h2, h3⟩ => ⟨h1, h.ref h2 h3, h3⟩
theorem pb_load (h : PB w C pp p g O nb c q A U P L S S2 P2 w') (hb : S.ct ≤ 18446744073709551615 := by first | omega | decide | (simp only []; omega)) : Calls Try.prog 30 #[.pointer (some c)] w' fun e w2 => e = .returned (.tuple #[.int .u64 (S.cw : Int), .int .u64 (S.ct : Int)]) ∧ PB w C pp p g O nb c q A U P L S.asked S2 P2 w2 ∧ Upd O w' w2 :=
  (has_load h.has hb).mono fun e w2 ⟨h1, h2, h3⟩ => ⟨h1, h.page h2 h.wh.ask h3, h3⟩
theorem pb_post {x : Nat} {R : List Nat} (h : PB w C pp p g O nb c q A U P L S S2 P2 w') (hp : U.Perm (x :: R)) (ht : S.ct ≤ 18446744073709551615) :
    Calls Try.prog 20 #[.pointer (some ⟨pp, 0, none⟩), .int .u64 (x : Int), .int .u64 (S.cw : Int), .int .u64 (S.ct : Int)] w' fun e w2 => e = .returned (.tuple #[.bool true, .int .i64 0]) ∧ PB w C pp p g O nb c q A R (x :: P) (MemMath.put8 L x S.cw) (S.wrote x) S2 P2 w2 ∧ Upd O w' w2 := by
  have hg := h.good
  have hw := h.wh.perm hp
  have hn := hw.ne.1 x (List.mem_cons_self ..)
  have hf := hw.fits hg (List.mem_cons_self ..)
  have hbig := hg.big
  have hcw := (C.num h.has.pg).1
  have := has_post (a := x) (hd := S.cw) (t := S.ct) h.has (show x ≤ _ by omega) hcw ht hn.1 hn.2.1 (given_blk hg (hw.inU x (List.mem_cons_self ..)))
  rw [show postP S x S.ct = (S.wrote x, true) from if_pos rfl] at this
  exact this.mono fun e w2 ⟨h1, h2, h3⟩ => ⟨h1, h.page h2 (hw.post hg) h3, h3⟩
theorem pb_late {x t : Nat} (h : PB w C pp p g O nb c q A U P L S S2 P2 w') (hx : x ∈ U) (ht : t ≤ 18446744073709551615) (hne : t ≠ S.ct) (hb : S.ct ≤ 18446744073709551615 := by first | omega | decide | (simp only []; omega)) :
    Calls Try.prog 20 #[.pointer (some ⟨pp, 0, none⟩), .int .u64 (x : Int), .int .u64 (S.cw : Int), .int .u64 (t : Int)] w' fun e w2 => e = .returned (.tuple #[.bool false, .int .i64 0]) ∧ PB w C pp p g O nb c q A U P (MemMath.put8 L x S.cw) S.asked S2 P2 w2 ∧ Upd O w' w2 := by
  have hg := h.good
  have hn := h.wh.ne.1 x hx
  have hf := h.wh.fits hg hx
  have hbig := hg.big
  have hcw := (C.num h.has.pg).1
  have := has_post (a := x) (hd := S.cw) (t := t) h.has (show x ≤ _ by omega) hcw ht hn.1 hn.2.1 (given_blk hg (h.wh.inU x hx))
  rw [show postP S x t = (S.asked, false) from if_neg hne] at this
  exact this.mono fun e w2 ⟨h1, h2, h3⟩ => ⟨h1, h.page h2 (h.wh.late hg hx (Agree.put hf.2.2)) h3, h3⟩
theorem pb_rpost {x t : Nat} (h : PB w C pp p g O nb c q A U P L S S2 P2 w') (f : FitP S2) (hP : P2.length ≤ 1024) (hx : U64B x) (ht : U64B t) :
    Calls Try.prog 50 #[.pointer (some ⟨q, 0, none⟩), .int .u64 (x : Int), .int .u64 (t : Int)] w' fun e w2 => e = .returned (.bool (postP S2 x t).2) ∧ PB w C pp p g O nb c q A U P L S (postP S2 x t).1 (if t = S2.ct then x :: P2 else P2) w2 ∧ Upd (fun b => b = q) w' w2 :=
  (refp_post w' h.rp f hP x t hx ht h.hA).mono fun e w2 ⟨h1, h2, h3⟩ => ⟨h1, h.ref h2 h3, h3⟩
/-- The document's count, one more. -/
theorem PB.ask (h : PB w C pp p g O nb c q A U P L S S2 P2 w') (v : Int) (hv : v = ((S2.ca + 1 : Nat) : Int)) : PB w C pp p g O nb c q A U P L S S2.asked P2 (w'.setCell ⟨q, 9, none⟩ (.int .i64 v)) ∧ Upd (fun b => b = q) w' (w'.setCell ⟨q, 9, none⟩ (.int .i64 v)) := by
  subst hv
  obtain ⟨aF, cF, aG, cG, aP, cP, k, rF, rG, rP⟩ := h.rp.out
  have u : Upd (fun b => b = q) w' (w'.setCell ⟨q, 9, none⟩ (.int .i64 ((S2.ca + 1 : Nat) : Int))) := (Upd.refl (fun b => b = q) w').setCell (p := ⟨q, 9, none⟩) (.inl rfl) _
  exact ⟨h.ref ⟨⟨aF, cF, aG, cG, aP, cP, k.put 9 _, rF.upd u (fun _ h => Or.inr h), rG.upd u (fun _ h => Or.inr h), rP.upd u (fun _ h => Or.inr h)⟩, h.rp.nq⟩ u, u⟩
theorem PB.c9 (h : PB w C pp p g O nb c q A U P L S S2 P2 w') : w'.cell? ⟨q, 9, none⟩ = some (.int .i64 (S2.ca : Int)) := by
  obtain ⟨aF, cF, aG, cG, aP, cP, k, _⟩ := h.rp.out; exact k.cell 9
theorem PB.frozen (h : PB w C pp p g O nb c q A U P L S S2 P2 w') (i : Nat) : w'.frozen? ⟨q, i, none⟩ = false := by
  obtain ⟨aF, cF, aG, cG, aP, cP, k, _⟩ := h.rp.out; exact k.frozen i
theorem pb_given {x : Nat} (h : PB w C pp p g O nb c q A U P L S S2 P2 w') (f : FitP S2) (hx : U64B x) : Calls Try.prog 18 #[.pointer (some ⟨q, 0, none⟩), .int .u64 (x : Int)] w' fun e w2 => e = .returned (.int .i64 (givenE S2 x)) ∧ PB w C pp p g O nb c q A U P L S S2 P2 w2 ∧ Below w'.heap.size w' w2 :=
  (refp_given w' h.rp f x hx).mono fun e w2 ⟨h1, _, h3⟩ => ⟨h1, h.grew h3, h3⟩
theorem pb_freebad {x b : Nat} (h : PB w C pp p g O nb c q A U P L S S2 P2 w') (hq : Seq Elem.u64s w' (.slice (some ⟨b, 0, none⟩) 1 1) [x]) (hx : U64B x) (hg : givenE S x ≠ 0) : Calls Try.prog 19 #[.pointer (some ⟨pp, 0, none⟩), .slice (some ⟨b, 0, none⟩) 1 1] w' fun e w2 => e = .returned (.int .i64 (givenE S x)) ∧ PB w C pp p g O nb c q A U P L S S2 P2 w2 ∧ Below w'.heap.size w' w2 :=
  (C.free_bad w' h.has.below h.has.pg hq (by decide) (by decide) hx hg).mono fun e w2 ⟨h1, h3⟩ => ⟨h1, h.grew h3, h3⟩
theorem pb_postbad {x : Nat} (h : PB w C pp p g O nb c q A U P L S S2 P2 w') (hx : U64B x) (hF : x ∉ S.F) (hG : x ∉ S.G) (hg : givenE S x ≠ 0) (hb : S.ct ≤ 18446744073709551615 := by first | omega | decide | (simp only []; omega)) : Calls Try.prog 20 #[.pointer (some ⟨pp, 0, none⟩), .int .u64 (x : Int), .int .u64 0, .int .u64 1000] w' fun e w2 => e = .returned (.tuple #[.bool false, .int .i64 (givenE S x)]) ∧ PB w C pp p g O nb c q A U P L S S2 P2 w2 ∧ Upd O w' w2 :=
  (C.post w' h.has.below h.has.pg hb (h := 0) (t := 1000) hx (by decide) (by decide) hF hG).mono fun e w2 ⟨k1, _, k3⟩ => ⟨(k3 hg).1, h.page (h.has.turn (k3 hg).2 k1) h.wh k1, k1⟩
end
end Go.Proofs.Ytlnlipjnljbegaa
