/- Layer 7: two lists of the program in one array, two of the document's in another one: what each call makes of them. -/
import Derived.Test.YtmnnmgphiiedgaaListG
import Derived.Test.YtmnnmgphiiedgaaRefL2
namespace Go.Proofs.Ytmnnmgphiiedgaa
open Go.RowKit ListMath
set_option linter.unusedVariables false

/-- A memory's bytes, and two lists. -/
structure St2 where
  L : List Nat
  hs : Nat → Nat
  ns : Nat → Int
def St2.at (A : St2) (i : Nat) : LS := ⟨A.L, A.hs i, A.ns i⟩
def St2.put (A : St2) (i : Nat) (s : LS) : St2 := ⟨s.L, fun j => if j = i then s.h else A.hs j, fun j => if j = i then s.n else A.ns j⟩
def St2.put2 (A : St2) (i : Nat) (s t : LS) : St2 := ⟨s.L, fun j => if j = i then s.h else t.h, fun j => if j = i then s.n else t.n⟩
def St2.lay (A : St2) (L : List Nat) : St2 := ⟨L, A.hs, A.ns⟩
theorem St2.put_at (A : St2) (i : Nat) (s : LS) : (A.put i s).at i = s := by unfold St2.at St2.put; simp
/-- What may be of it. -/
structure Good2 (A : St2) (m : Int) : Prop where
  len : A.L.length = 2048
  h : ∀ i, i ≤ 1 → A.hs i ≤ 18446744073709551615
  n : ∀ i, i ≤ 1 → 0 ≤ A.ns i
  sum : A.ns 0 + A.ns 1 ≤ m
theorem Good2.each {A : St2} {m : Int} (G : Good2 A m) {i : Nat} (hi : i ≤ 1) : A.ns i ≤ m := by
  have h0 := G.n 0 (by omega); have h1 := G.n 1 (by omega); have := G.sum
  have : i = 0 ∨ i = 1 := by omega
  rcases this with rfl | rfl <;> omega
structure BL (w : World) (p g q h b7 b8 bc : Nat) (act : Array Value) (t : TypeId) (A B : St2) (w' : World) : Prop where
  mem : IsMem w' p g A.L
  ref : IsRef w' q h B.L
  l : ∀ i, i ≤ 1 → LCell w' b7 (i * 2) (A.hs i) (A.ns i)
  k : ∀ i, i ≤ 1 → LCell w' b8 (i * 2) (B.hs i) (B.ns i)
  act : Blk w' bc t act
  fp : w.heap.size ≤ p ∧ w.heap.size ≤ g ∧ w.heap.size ≤ q ∧ w.heap.size ≤ h ∧ w.heap.size ≤ b7 ∧ w.heap.size ≤ b8 ∧ w.heap.size ≤ bc
  d7 : b7 ≠ p ∧ b7 ≠ g ∧ b7 ≠ q ∧ b7 ≠ h ∧ b7 ≠ b8 ∧ b7 ≠ bc
  d8 : b8 ≠ p ∧ b8 ≠ g ∧ b8 ≠ q ∧ b8 ≠ h ∧ b8 ≠ bc
  dg : g ≠ q ∧ g ≠ h ∧ g ≠ bc ∧ p ≠ h ∧ h ≠ bc
  below : Below w.heap.size w w'
theorem lpl_off {b i j : Nat} (hij : i ≠ j) : ¬ LPl b (i * 2) b (j * 2) ∧ ¬ LPl b (i * 2) b (j * 2 + 1) := by
  unfold LPl; refine ⟨?_, ?_⟩ <;> (rintro ⟨_, x⟩; omega)
theorem lpl_blk {b c o i : Nat} (h : c ≠ b) : ¬ LPl b o c i := fun x => h x.1
theorem other_of {i i' j : Nat} (hi : i ≤ 1) (hi' : i' ≤ 1) (hj : j ≤ 1) (hne : i ≠ i') (h : ¬ j = i) : j = i' := by omega
theorem nor {a b c : Nat} (h1 : a ≠ b) (h2 : a ≠ c) : ¬ (a = b ∨ a = c) := fun x => x.elim h1 h2
section
variable {w : World} {p g q h b7 b8 bc : Nat} {act : Array Value} {t : TypeId} {A B : St2} {w' w2 : World}
theorem BL.grew (s : BL w p g q h b7 b8 bc act t A B w') (hb : Below w'.heap.size w' w2) : BL w p g q h b7 b8 bc act t A B w2 :=
  ⟨s.mem.upd (updFalse_of hb) id id, s.ref.upd (updFalse_of hb) id id, fun i hi => (s.l i hi).upd (updFalse_of hb) id, fun i hi => (s.k i hi).upd (updFalse_of hb) id, s.act.grew hb, s.fp, s.d7, s.d8, s.dg, below_then s.below s.below.size hb⟩
theorem BL.drew (s : BL w p g q h b7 b8 bc act t A B w') : BL w p g q h b7 b8 bc act t A B w'.drew := s.grew (Below.refl _ _).drew
/-- The program's list i turned. -/
theorem BL.turnA (s : BL w p g q h b7 b8 bc act t A B w') {i : Nat} (hi : i ≤ 1) {S : LS} (P : PL w2 p g b7 (i * 2) S) (W : Wrt (fun b => b = g) (LPl b7 (i * 2)) w' w2) : BL w p g q h b7 b8 bc act t (A.put i S) B w2 := by
  have hu : Upd (fun b => b = g ∨ b = b7) w' w2 := W.upd.mono fun b hb => by
    rcases hb with hb | ⟨j, hb, _⟩
    · exact Or.inl hb
    · exact Or.inr hb
  obtain ⟨d1, d2, d3, d4, d5⟩ := s.dg; obtain ⟨e1, e2, e3, e4, e5, e6⟩ := s.d7; obtain ⟨f1, f2, f3, f4, f5⟩ := s.d8
  have hf := s.fp; have hsz := s.below.size
  refine ⟨P.mem, s.ref.upd hu (nor d1.symm e3.symm) (nor d2.symm e4.symm), fun j hj => ?_, fun j hj => (s.k j hj).upd hu (nor f2 e5.symm), s.act.upd hu (nor d3.symm e6.symm), hf, s.d7, s.d8, s.dg, s.below.trans (hu.below (fun b hb => by rcases hb with rfl | rfl; exact hf.2.1; exact hf.2.2.2.2.1) hsz)⟩
  show LCell w2 b7 (j * 2) (if j = i then S.h else A.hs j) (if j = i then S.n else A.ns j)
  by_cases hji : j = i
  · subst hji; rw [if_pos rfl, if_pos rfl]; exact P.lst
  · rw [if_neg hji, if_neg hji]
    have := lpl_off (b := b7) (i := i) (j := j) (fun e => hji e.symm)
    exact (s.l j hj).keep W e2 this.1 this.2
theorem BL.turnB (s : BL w p g q h b7 b8 bc act t A B w') {i : Nat} (hi : i ≤ 1) {S : LS} (P : RL w2 q h b8 (i * 2) S) (W : Wrt (fun b => b = h) (LPl b8 (i * 2)) w' w2) : BL w p g q h b7 b8 bc act t A (B.put i S) w2 := by
  have hu : Upd (fun b => b = h ∨ b = b8) w' w2 := W.upd.mono fun b hb => by
    rcases hb with hb | ⟨j, hb, _⟩
    · exact Or.inl hb
    · exact Or.inr hb
  obtain ⟨d1, d2, d3, d4, d5⟩ := s.dg; obtain ⟨e1, e2, e3, e4, e5, e6⟩ := s.d7; obtain ⟨f1, f2, f3, f4, f5⟩ := s.d8
  have hf := s.fp; have hsz := s.below.size
  refine ⟨s.mem.upd hu (nor d4 f1.symm) (nor d2 f2.symm), P.mem, fun j hj => (s.l j hj).upd hu (nor e4 e5), fun j hj => ?_, s.act.upd hu (nor d5.symm f5.symm), hf, s.d7, s.d8, s.dg, s.below.trans (hu.below (fun b hb => by rcases hb with rfl | rfl; exact hf.2.2.2.1; exact hf.2.2.2.2.2.1) hsz)⟩
  show LCell w2 b8 (j * 2) (if j = i then S.h else B.hs j) (if j = i then S.n else B.ns j)
  by_cases hji : j = i
  · subst hji; rw [if_pos rfl, if_pos rfl]; exact P.lst
  · rw [if_neg hji, if_neg hji]
    have := lpl_off (b := b8) (i := i) (j := j) (fun e => hji e.symm)
    exact (s.k j hj).keep W f4 this.1 this.2
theorem BL.pl (s : BL w p g q h b7 b8 bc act t A B w') {i : Nat} (hi : i ≤ 1) : PL w' p g b7 (i * 2) (A.at i) := ⟨s.mem, s.l i hi, s.d7.1, s.d7.2.1⟩
theorem BL.rl (s : BL w p g q h b7 b8 bc act t A B w') {i : Nat} (hi : i ≤ 1) : RL w' q h b8 (i * 2) (B.at i) := ⟨s.ref, s.k i hi, s.d8.2.2.1, s.d8.2.2.2.1⟩
theorem BL.both (s : BL w p g q h b7 b8 bc act t A B w') {i i' : Nat} (hi : i ≤ 1) (hi' : i' ≤ 1) (hne : i ≠ i') {S T : LS} (hST : T.L = S.L) (hm : IsMem w2 p g S.L) (h1 : LCell w2 b7 (i * 2) S.h S.n) (h2 : LCell w2 b7 (i' * 2) T.h T.n) (W : Wrt (fun b => b = g) (fun b j => LPl b7 (i * 2) b j ∨ LPl b7 (i' * 2) b j) w' w2) : BL w p g q h b7 b8 bc act t (A.put2 i S T) B w2 := by
  have hu : Upd (fun b => b = g ∨ b = b7) w' w2 := W.upd.mono fun b hb => by
    rcases hb with hb | ⟨j, hb | hb⟩
    · exact Or.inl hb
    · exact Or.inr hb.1
    · exact Or.inr hb.1
  obtain ⟨d1, d2, d3, d4, d5⟩ := s.dg; obtain ⟨e1, e2, e3, e4, e5, e6⟩ := s.d7; obtain ⟨f1, f2, f3, f4, f5⟩ := s.d8
  have hf := s.fp; have hsz := s.below.size
  refine ⟨hm, s.ref.upd hu (nor d1.symm e3.symm) (nor d2.symm e4.symm), fun j hj => ?_, fun j hj => (s.k j hj).upd hu (nor f2 e5.symm), s.act.upd hu (nor d3.symm e6.symm), hf, s.d7, s.d8, s.dg, s.below.trans (hu.below (fun b hb => by rcases hb with rfl | rfl; exact hf.2.1; exact hf.2.2.2.2.1) hsz)⟩
  show LCell w2 b7 (j * 2) (if j = i then S.h else T.h) (if j = i then S.n else T.n)
  by_cases hji : j = i
  · subst hji; rw [if_pos rfl, if_pos rfl]; exact h1
  · rw [if_neg hji, if_neg hji]; obtain rfl : j = i' := other_of hi hi' hj hne hji
    exact h2
theorem BL.bothB (s : BL w p g q h b7 b8 bc act t A B w') {i i' : Nat} (hi : i ≤ 1) (hi' : i' ≤ 1) (hne : i ≠ i') {S T : LS} (hm : IsRef w2 q h S.L) (h1 : LCell w2 b8 (i * 2) S.h S.n) (h2 : LCell w2 b8 (i' * 2) T.h T.n) (W : Wrt (fun b => b = h) (fun b j => LPl b8 (i * 2) b j ∨ LPl b8 (i' * 2) b j) w' w2) : BL w p g q h b7 b8 bc act t A (B.put2 i S T) w2 := by
  have hu : Upd (fun b => b = h ∨ b = b8) w' w2 := W.upd.mono fun b hb => by
    rcases hb with hb | ⟨j, hb | hb⟩
    · exact Or.inl hb
    · exact Or.inr hb.1
    · exact Or.inr hb.1
  obtain ⟨d1, d2, d3, d4, d5⟩ := s.dg; obtain ⟨e1, e2, e3, e4, e5, e6⟩ := s.d7; obtain ⟨f1, f2, f3, f4, f5⟩ := s.d8
  have hf := s.fp; have hsz := s.below.size
  refine ⟨s.mem.upd hu (nor d4 f1.symm) (nor d2 f2.symm), hm, fun j hj => (s.l j hj).upd hu (nor e4 e5), fun j hj => ?_, s.act.upd hu (nor d5.symm f5.symm), hf, s.d7, s.d8, s.dg, s.below.trans (hu.below (fun b hb => by rcases hb with rfl | rfl; exact hf.2.2.2.1; exact hf.2.2.2.2.2.1) hsz)⟩
  show LCell w2 b8 (j * 2) (if j = i then S.h else T.h) (if j = i then S.n else T.n)
  by_cases hji : j = i
  · subst hji; rw [if_pos rfl, if_pos rfl]; exact h1
  · rw [if_neg hji, if_neg hji]; obtain rfl : j = i' := other_of hi hi' hj hne hji
    exact h2
theorem BL.layA (s : BL w p g q h b7 b8 bc act t A B w') {M : List Nat} (hm : IsMem w2 p g M) (hu : Upd (fun b => b = g) w' w2) : BL w p g q h b7 b8 bc act t (A.lay M) B w2 := by
  obtain ⟨d1, d2, d3, d4, d5⟩ := s.dg; obtain ⟨e1, e2, e3, e4, e5, e6⟩ := s.d7; obtain ⟨f1, f2, f3, f4, f5⟩ := s.d8
  have hf := s.fp; have hsz := s.below.size
  exact ⟨hm, s.ref.upd hu d1.symm d2.symm, fun j hj => (s.l j hj).upd hu e2, fun j hj => (s.k j hj).upd hu f2, s.act.upd hu d3.symm, hf, s.d7, s.d8, s.dg, s.below.trans (hu.below (fun b hb => by subst hb; exact hf.2.1) hsz)⟩
theorem BL.layB (s : BL w p g q h b7 b8 bc act t A B w') {M : List Nat} (hm : IsRef w2 q h M) (hu : Upd (fun b => b = h) w' w2) : BL w p g q h b7 b8 bc act t A (B.lay M) w2 := by
  obtain ⟨d1, d2, d3, d4, d5⟩ := s.dg; obtain ⟨e1, e2, e3, e4, e5, e6⟩ := s.d7; obtain ⟨f1, f2, f3, f4, f5⟩ := s.d8
  have hf := s.fp; have hsz := s.below.size
  exact ⟨s.mem.upd hu d4 d2, hm, fun j hj => (s.l j hj).upd hu e4, fun j hj => (s.k j hj).upd hu f4, s.act.upd hu d5.symm, hf, s.d7, s.d8, s.dg, s.below.trans (hu.below (fun b hb => by subst hb; exact hf.2.2.2.1) hsz)⟩
end
end Go.Proofs.Ytmnnmgphiiedgaa
