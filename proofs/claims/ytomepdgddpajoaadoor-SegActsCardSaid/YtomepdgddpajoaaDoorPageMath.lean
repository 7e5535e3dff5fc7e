/- Pages (layer 9): rows of addresses over a memory's bytes. -/
import Derived.Test.YtomepdgddpajoaaDoorChains
import Derived.Test.YtomepdgddpajoaaDoorPushMath
import Derived.Test.YtomepdgddpajoaaDoorGeoMath
namespace Go.Proofs.YtomepdgddpajoaaDoor.PageMath
open ListMath GeoMath MemMath
set_option linter.unusedVariables false

/-! ### Memories that are the same but for some links -/
/-- L' is L but for the links of X. -/
def Agree (L L' X : List Nat) : Prop := L'.length = L.length ∧ ∀ i, (∀ x ∈ X, i < x ∨ x + 8 ≤ i) → L'.getD i 0 = L.getD i 0
theorem Agree.refl (L X : List Nat) : Agree L L X := ⟨rfl, fun _ _ => rfl⟩
theorem Agree.mono {L L' X Y : List Nat} (h : Agree L L' X) (hs : ∀ x ∈ X, x ∈ Y) : Agree L L' Y := ⟨h.1, fun i hi => h.2 i fun x hx => hi x (hs x hx)⟩
theorem Agree.trans {A B C X Y : List Nat} (h : Agree A B X) (k : Agree B C Y) : Agree A C (X ++ Y) :=
  ⟨k.1.trans h.1, fun i hi => (k.2 i fun x hx => hi x (List.mem_append_right _ hx)).trans (h.2 i fun x hx => hi x (List.mem_append_left _ hx))⟩
theorem Agree.put {L : List Nat} {a x : Nat} (ha : a + 8 ≤ L.length) : Agree L (put8 L a x) [a] := by
  refine ⟨length_put8 ha, fun i hi => ?_⟩
  have := hi a (List.mem_singleton.2 rfl)
  unfold put8
  rw [getD_splice (by rw [length_le]; exact ha), if_neg (by rw [length_le]; omega)]
theorem Agree.part {L L' X : List Nat} (h : Agree L L' X) {o n : Nat} (ho : o + n ≤ L.length) (hx : ∀ x ∈ X, o + n ≤ x ∨ x + 8 ≤ o) : MemMath.part L' o n = MemMath.part L o n := by
  apply ext_getD
  · rw [length_part (by rw [h.1]; exact ho), length_part ho]
  · intro i hi
    rw [length_part (by rw [h.1]; exact ho)] at hi
    rw [getD_part hi, getD_part hi]
    exact h.2 _ fun x hx' => by have := hx x hx'; omega
theorem Agree.link {L L' X : List Nat} (h : Agree L L' X) {b : Nat} (hb : b + 8 ≤ L.length) (hx : ∀ x ∈ X, Apart8 x b) : linkAt L' b = linkAt L b := by
  unfold linkAt
  rw [h.part hb fun x hx' => by have := hx x hx'; unfold Apart8 at this; omega]
theorem Chain.agree {L L' X : List Nat} (h : Agree L L' X) : ∀ {a : Nat} {l : List Nat}, Chain L a l → (∀ b ∈ l, ∀ x ∈ X, Apart8 x b) → Chain L' a l
  | _, [], hc, _ => hc
  | _, b :: t, hc, hd => by
    obtain ⟨rfl, h0, h8, hc⟩ := hc
    refine ⟨rfl, h0, by rw [h.1]; exact h8, ?_⟩
    rw [h.link h8 (hd _ (List.mem_cons_self ..))]
    exact Chain.agree h hc fun c hc => hd c (List.mem_cons_of_mem _ hc)
theorem chain_head {L : List Nat} {h : Nat} {l : List Nat} (hc : Chain L h l) : h = l.headD 0 := by
  cases l with
  | nil => exact hc
  | cons a t => exact hc.1

/-! ### Blocks of a run -/
def IsBlk (f s m a : Nat) : Prop := ∃ i, i < m ∧ a = f + i * s
theorem IsBlk.mono {f s m k a : Nat} (h : IsBlk f s m a) (hk : m ≤ k) : IsBlk f s k a := by obtain ⟨i, hi, e⟩ := h; exact ⟨i, Nat.lt_of_lt_of_le hi hk, e⟩
theorem mul_step {i j s : Nat} (h : i < j) : i * s + s ≤ j * s := by
  have := Nat.mul_le_mul_right s (show i + 1 ≤ j from h)
  rw [Nat.add_mul, Nat.one_mul] at this
  exact this
theorem IsBlk.apart {f s m k a b : Nat} (ha : IsBlk f s m a) (hb : IsBlk f s k b) (hne : a ≠ b) : a + s ≤ b ∨ b + s ≤ a := by
  obtain ⟨i, _, rfl⟩ := ha
  obtain ⟨j, _, rfl⟩ := hb
  rcases Nat.lt_trichotomy i j with h | h | h
  · have := mul_step (s := s) h; omega
  · subst h; exact absurd rfl hne
  · have := mul_step (s := s) h; omega
theorem IsBlk.apart8 {f s m k a b : Nat} (hs : 16 ≤ s) (ha : IsBlk f s m a) (hb : IsBlk f s k b) (hne : a ≠ b) : Apart8 a b := by
  have := ha.apart hb hne
  unfold Apart8; omega
theorem IsBlk.fits {f s m n k a : Nat} (ha : IsBlk f s m a) (hm : m ≤ n) (hf : f + n * s ≤ k) : a + s ≤ k := by
  obtain ⟨i, hi, rfl⟩ := ha
  have := mul_step (s := s) (Nat.lt_of_lt_of_le hi hm)
  omega
theorem IsBlk.pos {f s m a : Nat} (ha : IsBlk f s m a) (hf : 0 < f) : a ≠ 0 := by obtain ⟨i, _, rfl⟩ := ha; omega
/-- The next k blocks, the lowest first. -/
def news (f s made k : Nat) : List Nat := (List.range k).map fun j => f + (made + j) * s
theorem news_mem {f s made k a : Nat} (h : a ∈ news f s made k) : ∃ j, j < k ∧ a = f + (made + j) * s := by
  obtain ⟨j, hj, rfl⟩ := List.mem_map.1 h
  exact ⟨j, List.mem_range.1 hj, rfl⟩
theorem news_blk {f s made k a : Nat} (h : a ∈ news f s made k) : IsBlk f s (made + k) a := by
  obtain ⟨j, hj, rfl⟩ := news_mem h
  exact ⟨made + j, by omega, rfl⟩
theorem news_len (f s made k : Nat) : (news f s made k).length = k := by simp [news]
theorem mul_inj {i j s : Nat} (hs : 1 ≤ s) (h : i * s = j * s) : i = j := Nat.eq_of_mul_eq_mul_right (by omega) h
theorem news_new {f s made k a : Nat} (hs : 1 ≤ s) (h : a ∈ news f s made k) : ¬ IsBlk f s made a := by
  obtain ⟨j, hj, rfl⟩ := news_mem h
  rintro ⟨i, hi, e⟩
  have := mul_inj hs (show (made + j) * s = i * s by omega)
  omega
theorem news_nodup {f s made k : Nat} (hs : 1 ≤ s) : (news f s made k).Nodup := by
  unfold news
  rw [List.Nodup, List.pairwise_map]
  refine List.Pairwise.imp ?_ (List.nodup_range (n := k))
  intro a b hab e
  exact hab (by have := mul_inj hs (show (made + a) * s = (made + b) * s by omega); omega)

/-! ### A page -/
/-- Its run, how many are made and used, its two rows, its cell's word, tag, and how often that was asked. -/
structure PG where
  f : Nat
  s : Nat
  n : Nat
  made : Nat
  used : Nat
  F : List Nat
  G : List Nat
  cw : Nat
  ct : Nat
  ca : Nat
/-- May there be such a page, in so many bytes? -/
def mayP (f s : Nat) (n : Int) (sz : Nat) : Bool := mayN f s n && decide (0 < f) && decide (16 ≤ s) && decide (1 ≤ n) && decide (endN f s n ≤ sz)
theorem mayP_iff {f s sz : Nat} {n : Int} : mayP f s n sz = true ↔ (mayN f s n = true ∧ 0 < f ∧ 16 ≤ s ∧ 1 ≤ n ∧ endN f s n ≤ sz) := by
  unfold mayP; simp [and_assoc]
def newPG (f s n : Nat) : PG := ⟨f, s, n, 0, 0, [], [], 0, 0, 0⟩
structure GoodP (L : List Nat) (S : PG) : Prop where
  f0 : 0 < S.f
  s16 : 16 ≤ S.s
  n1 : 1 ≤ S.n
  n2 : S.n ≤ 1024
  fit : S.f + S.n * S.s ≤ L.length
  big : L.length ≤ 1048576
  made : S.made ≤ S.n
  cF : Chain L (S.F.headD 0) S.F
  cG : Chain L (S.G.headD 0) S.G
  inF : ∀ a ∈ S.F, IsBlk S.f S.s S.made a
  inG : ∀ a ∈ S.G, IsBlk S.f S.s S.made a
  nd : (S.F ++ S.G).Nodup
theorem GoodP.may {L : List Nat} {S : PG} (h : GoodP L S) : mayN S.f S.s (S.n : Int) = true := by
  have h1 := h.fit; have h2 := h.big; have h3 := h.s16; have h4 := h.n1; have h5 := h.n2
  have h6 : S.s ≤ S.n * S.s := Nat.le_mul_of_pos_left _ h4
  rw [may_iff]
  refine ⟨by omega, by omega, by omega, by omega, by omega, ?_⟩
  rw [Int.toNat_natCast]; omega
theorem GoodP.new {L : List Nat} {f s n : Nat} (h1 : 0 < f) (h2 : 16 ≤ s) (h3 : 1 ≤ n) (h4 : n ≤ 1024) (h5 : f + n * s ≤ L.length) (h6 : L.length ≤ 1048576) : GoodP L (newPG f s n) :=
  ⟨h1, h2, h3, h4, h5, h6, Nat.zero_le _, rfl, rfl, (by intro a h; cases h), (by intro a h; cases h), List.nodup_nil⟩
theorem may_new {L : List Nat} {f s : Nat} {n : Int} (h : mayP f s n L.length = true) (hb : L.length ≤ 1048576) : ∃ m : Nat, n = (m : Int) ∧ GoodP L (newPG f s m) := by
  obtain ⟨h1, h2, h3, h4, h5⟩ := mayP_iff.1 h
  have h6 := may_iff.1 h1
  obtain ⟨m, rfl⟩ := Int.eq_ofNat_of_zero_le h6.2.2.1
  have h7 : endN f s (m : Int) = f + m * s := by unfold endN; rw [if_pos h1, Int.toNat_natCast]
  rw [h7] at h5
  exact ⟨m, rfl, GoodP.new h2 h3 (by omega) (by omega) h5 hb⟩
/-- What layer 6 and the page say of an address that is to be given back. -/
def givenE (S : PG) (a : Nat) : Int := if indexE S.f S.s (S.n : Int) a = 0 then (if indexN S.f S.s (S.n : Int) a < S.made then 0 else 5) else indexE S.f S.s (S.n : Int) a
theorem given_blk {L : List Nat} {S : PG} (h : GoodP L S) {a : Nat} (ha : IsBlk S.f S.s S.made a) : givenE S a = 0 := by
  obtain ⟨i, hi, e⟩ := ha
  have hm := h.made
  have := index_hit h.may (i := i) (by omega) e
  unfold givenE
  rw [this.1, this.2, if_pos rfl, if_pos hi]
theorem given_not {L : List Nat} {S : PG} (h : GoodP L S) {a : Nat} (ha : givenE S a = 0) : IsBlk S.f S.s S.made a := by
  unfold givenE at ha
  split at ha
  · rename_i h0
    split at ha
    · rename_i h1
      unfold indexE at h0
      rw [if_pos h.may] at h0
      split at h0
      · rename_i h2
        split at h0
        · rename_i h3
          have hn : indexN S.f S.s (S.n : Int) a = (a - S.f) / S.s := by unfold indexN; rw [if_pos ⟨h.may, h2, h3⟩]
          rw [hn] at h1
          refine ⟨_, h1, ?_⟩
          have h4 := (hits_iff.1 h2).1
          have h5 := Nat.div_add_mod (a - S.f) S.s
          rw [h3, Nat.add_zero, Nat.mul_comm] at h5
          omega
        · cases h0
      · cases h0
    · cases ha
  · rename_i h0; exact absurd ha h0
/-- How many more are made. -/
def moreN (S : PG) : Nat := if S.F = [] ∧ S.G = [] then min 4 (S.n - S.made) else 0
/-- The rows, once the free one has some. -/
def refill (S : PG) : PG := if S.F ≠ [] then S else if S.G ≠ [] then { S with F := S.G, G := [] } else { S with F := news S.f S.s S.made (moreN S), made := S.made + moreN S }
def newsOf (S : PG) : List Nat := if S.F = [] ∧ S.G = [] then news S.f S.s S.made (moreN S) else []
def allocP (S : PG) : PG × Nat × Int := match (refill S).F with
  | [] => (S, 0, 4)
  | a :: t => ({ refill S with F := t, used := S.used + 1 }, a, 0)
def free1 (S : PG) (a : Nat) : PG × Int := if givenE S a ≠ 0 then (S, givenE S a) else if S.used = 0 then (S, 5) else ({ S with G := a :: S.G, used := S.used - 1 }, 0)
def freeP : PG → List Nat → PG × Int
  | S, [] => (S, 0)
  | S, a :: t => if (free1 S a).2 = 0 then freeP (free1 S a).1 t else free1 S a
/-- The cell, asked once more by a write of x. -/
def PG.wrote (S : PG) (x : Nat) : PG := { S with cw := x, ct := S.ct + 1, ca := S.ca + 1 }
def PG.asked (S : PG) : PG := { S with ca := S.ca + 1 }
def postP (S : PG) (a tag : Nat) : PG × Bool := if tag = S.ct then (S.wrote a, true) else (S.asked, false)
/-- Gathered: the rows, and how many. -/
def gathP (S : PG) (P : List Nat) : PG := { S.wrote 0 with G := P ++ S.G, used := S.used - P.length }
end Go.Proofs.YtomepdgddpajoaaDoor.PageMath
