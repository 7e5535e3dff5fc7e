/- Lists of blocks, link by link, over a memory's bytes. -/
import Derived.Test.YtomepdgddpajoaaDoorMemMath
import Derived.Test.YtomepdgddpajoaaDoorBlocksMath
namespace Go.Proofs.YtomepdgddpajoaaDoor.ListMath
open MemMath
set_option linter.unusedVariables false

def linkAt (L : List Nat) (a : Nat) : Nat := val (MemMath.part L a 8)
/-- From h on, link by link, come just these. -/
def Chain (L : List Nat) : Nat → List Nat → Prop
  | h, [] => h = 0
  | h, a :: t => h = a ∧ a ≠ 0 ∧ a + 8 ≤ L.length ∧ Chain L (linkAt L a) t
/-- What hangs on h, if it ends within m. -/
def rowF (L : List Nat) : Nat → Nat → Option (List Nat)
  | 0, h => if h = 0 then some [] else none
  | m + 1, h => if h = 0 then some [] else if h + 8 ≤ L.length then (rowF L m (linkAt L h)).map (fun t => h :: t) else none
theorem rowF_zero (L : List Nat) (m : Nat) : rowF L m 0 = some [] := by cases m <;> simp [rowF]
theorem rowF_chain {L : List Nat} : ∀ {m : Nat} {h : Nat} {l : List Nat}, Chain L h l → l.length ≤ m → rowF L m h = some l
  | m, h, [], hc, _ => by rw [show h = 0 from hc]; exact rowF_zero L m
  | 0, h, a :: t, _, hl => by simp at hl
  | m + 1, h, a :: t, hc, hl => by
    obtain ⟨rfl, h0, h8, hc⟩ := hc
    have := rowF_chain (m := m) hc (by simp at hl; omega)
    simp [rowF, h0, h8, this]
theorem rowF_short {L : List Nat} : ∀ {m : Nat} {h : Nat} {l : List Nat}, Chain L h l → m < l.length → rowF L m h = none
  | m, h, [], _, hl => by simp at hl
  | 0, h, a :: t, hc, _ => by
    obtain ⟨rfl, h0, _, _⟩ := hc
    simp [rowF, h0]
  | m + 1, h, a :: t, hc, hl => by
    obtain ⟨rfl, h0, h8, hc⟩ := hc
    have := rowF_short (m := m) hc (by simp at hl; omega)
    simp [rowF, h0, h8, this]
theorem chain_rowF {L : List Nat} : ∀ {m : Nat} {h : Nat} {l : List Nat}, rowF L m h = some l → Chain L h l ∧ l.length ≤ m
  | 0, h, l, e => by
    unfold rowF at e
    split at e
    · rename_i h0; injection e with e; subst e; exact ⟨h0, Nat.le_refl _⟩
    · cases e
  | m + 1, h, l, e => by
    unfold rowF at e
    split at e
    · rename_i h0; injection e with e; subst e; exact ⟨h0, by simp⟩
    · rename_i h0
      split at e
      · rename_i h8
        cases hr : rowF L m (linkAt L h) with
        | none => rw [hr] at e; cases e
        | some t =>
          rw [hr] at e
          injection e with e
          subst e
          obtain ⟨h1, h2⟩ := chain_rowF hr
          exact ⟨⟨rfl, h0, h8, h1⟩, by simp; omega⟩
      · cases e
/-- What never comes to 0 ends within nothing. -/
theorem rowF_ring {L : List Nat} {S : Nat → Prop} (hS : ∀ k, S k → k ≠ 0 ∧ S (linkAt L k)) : ∀ (m h : Nat), S h → rowF L m h = none
  | 0, h, hh => by simp [rowF, (hS h hh).1]
  | m + 1, h, hh => by
    have := rowF_ring hS m _ (hS h hh).2
    unfold rowF
    rw [if_neg (hS h hh).1]
    split
    · rw [this]; rfl
    · rfl
def Apart8 (a b : Nat) : Prop := b + 8 ≤ a ∨ a + 8 ≤ b
theorem link_put {L : List Nat} {a x b : Nat} (ha : a + 8 ≤ L.length) (hb : b + 8 ≤ L.length) (h : Apart8 a b) : linkAt (put8 L a x) b = linkAt L b := by
  unfold linkAt; rw [part_put8_out ha (by rcases h with h | h <;> omega) hb]
theorem link_same {L : List Nat} {a x : Nat} (ha : a + 8 ≤ L.length) (hx : x ≤ 18446744073709551615) : linkAt (put8 L a x) a = x := val_put8 ha hx
theorem Chain.put {L : List Nat} {a x : Nat} (ha : a + 8 ≤ L.length) : ∀ {h : Nat} {l : List Nat}, Chain L h l → (∀ b ∈ l, Apart8 a b) → Chain (put8 L a x) h l
  | h, [], hc, _ => hc
  | h, b :: t, hc, hd => by
    obtain ⟨rfl, h0, h8, hc⟩ := hc
    refine ⟨rfl, h0, by rw [length_put8 ha]; exact h8, ?_⟩
    rw [link_put ha h8 (hd _ (List.mem_cons_self ..))]
    exact Chain.put ha hc (fun c hc => hd c (List.mem_cons_of_mem _ hc))
theorem Chain.push {L : List Nat} {a h : Nat} {l : List Nat} (hc : Chain L h l) (h0 : a ≠ 0) (h8 : a + 8 ≤ L.length) (hd : ∀ b ∈ l, Apart8 a b) (hh : h ≤ 18446744073709551615) : Chain (put8 L a h) a (a :: l) :=
  ⟨rfl, h0, by rw [length_put8 h8]; exact h8, by rw [link_same h8 hh]; exact hc.put h8 hd⟩
theorem Chain.head_le {L : List Nat} {h : Nat} {l : List Nat} (hc : Chain L h l) (hL : L.length ≤ 1048576) : h ≤ 1048576 := by
  cases l with
  | nil => rw [show h = 0 from hc]; omega
  | cons a t => obtain ⟨rfl, _, h8, _⟩ := hc; omega
/-- The other's last link is laid: one list. -/
theorem Chain.join {L : List Nat} {z hl : Nat} {l : List Nat} (hz : z + 8 ≤ L.length) (hh : hl ≤ 18446744073709551615) (hc : Chain L hl l) (hd : ∀ b ∈ l, Apart8 z b) : ∀ {ho : Nat} {o : List Nat}, Chain L ho (o ++ [z]) → (∀ b ∈ o, Apart8 z b) → Chain (put8 L z hl) ho (o ++ [z] ++ l)
  | ho, [], h, _ => by
    obtain ⟨rfl, h0, h8, _⟩ := h
    exact ⟨rfl, h0, by rw [length_put8 hz]; exact h8, by rw [link_same hz hh]; exact hc.put hz hd⟩
  | ho, b :: t, h, hd2 => by
    obtain ⟨rfl, h0, h8, h⟩ := h
    refine ⟨rfl, h0, by rw [length_put8 hz]; exact h8, ?_⟩
    rw [link_put hz h8 (hd2 _ (List.mem_cons_self ..))]
    exact Chain.join hz hh hc hd h (fun c hc => hd2 c (List.mem_cons_of_mem _ hc))
theorem Chain.drop {L : List Nat} : ∀ {h : Nat} {l : List Nat} (k : Nat), Chain L h l → ∀ a, l[k]? = some a → Chain L a (l.drop k)
  | h, b :: t, 0, hc, a, e => by
    simp at e; subst e; obtain ⟨rfl, h0, h8, hc⟩ := hc; exact ⟨rfl, h0, h8, hc⟩
  | h, b :: t, k + 1, hc, a, e => by
    obtain ⟨rfl, _, _, hc⟩ := hc
    exact Chain.drop k hc a (by simpa using e)

/-! ### The document's list, as numbers -/
/-- A memory's bytes, a list's head, and its count. -/
structure LS where
  L : List Nat
  h : Nat
  n : Int
def push1 (s : LS) (a : Nat) : LS × Int := if a = 0 then (s, 2) else if a + 8 ≤ s.L.length then (⟨put8 s.L a s.h, a, s.n + 1⟩, 0) else (s, 3)
def pushN : LS → List Nat → LS × Int
  | s, [] => (s, 0)
  | s, a :: t => if (push1 s a).2 = 0 then pushN (push1 s a).1 t else push1 s a
def popN (s : LS) : LS × Nat × Int := if s.n = 0 then (s, 0, 5) else if s.h + 8 ≤ s.L.length then (⟨s.L, linkAt s.L s.h, s.n - 1⟩, s.h, 0) else (s, 0, 3)
/-- All, if it is right. -/
def allN (s : LS) : Option (List Nat) := if s.n < 0 then none else match rowF s.L (min s.n.toNat s.L.length) s.h with
  | some r => if r.length = s.n.toNat then some r else none
  | none => none
def chainN (L : List Nat) (h : Nat) (m : Int) : Option (List Nat) := rowF L (min m.toNat L.length) h
def lastD (r : List Nat) : Nat := r.getLastD 0
/-- l, o, joined: l, and o. -/
def joinN (L : List Nat) (lh : Nat) (ln : Int) (oh : Nat) (on : Int) : Option (LS × LS) := match allN ⟨L, oh, on⟩ with
  | none => none
  | some [] => some (⟨L, lh, ln⟩, ⟨L, 0, 0⟩)
  | some r => some (⟨put8 L (lastD r) lh, oh, ln + on⟩, ⟨put8 L (lastD r) lh, 0, 0⟩)
theorem pushN_good : ∀ (l : List Nat) (s : LS) (r : List Nat), Chain s.L s.h r → s.L.length ≤ 1048576 → (∀ a ∈ l, a ≠ 0 ∧ a + 8 ≤ s.L.length) → (∀ a ∈ l, ∀ b ∈ r, Apart8 a b) → l.Pairwise Apart8 →
    (pushN s l).2 = 0 ∧ Chain (pushN s l).1.L (pushN s l).1.h (l.reverse ++ r) ∧ (pushN s l).1.n = s.n + l.length ∧ (pushN s l).1.L.length = s.L.length
  | [], s, r, hc, _, _, _, _ => by simp [pushN, hc]
  | a :: t, s, r, hc, hL, h1, h2, h3 => by
    obtain ⟨h0, h8⟩ := h1 a (List.mem_cons_self ..)
    have e : push1 s a = (⟨put8 s.L a s.h, a, s.n + 1⟩, 0) := by unfold push1; rw [if_neg h0, if_pos h8]
    have hc2 : Chain (put8 s.L a s.h) a (a :: r) := hc.push h0 h8 (h2 a (List.mem_cons_self ..)) (by have := hc.head_le hL; omega)
    have hlen := length_put8 (L := s.L) (a := a) (x := s.h) h8
    rw [List.pairwise_cons] at h3
    have ih := pushN_good t ⟨put8 s.L a s.h, a, s.n + 1⟩ (a :: r) hc2 (by show (put8 s.L a s.h).length ≤ _; rw [hlen]; exact hL)
      (fun b hb => by show b ≠ 0 ∧ b + 8 ≤ (put8 s.L a s.h).length; rw [hlen]; exact h1 b (List.mem_cons_of_mem _ hb))
      (fun b hb c hc => by
        rcases List.mem_cons.1 hc with rfl | hc
        · have := h3.1 b hb; unfold Apart8 at this ⊢; omega
        · exact h2 b (List.mem_cons_of_mem _ hb) c hc) h3.2
    unfold pushN
    rw [e]
    simp only [if_true]
    refine ⟨ih.1, ?_, ?_, ?_⟩
    · rw [List.reverse_cons, List.append_assoc]; exact ih.2.1
    · rw [ih.2.2.1]; simp only [List.length_cons]; omega
    · rw [ih.2.2.2]; exact hlen
theorem blocks_good {l : List Nat} {n : Nat} (hn : 1936 ≤ n) : (∀ a ∈ blocksN l, a ≠ 0 ∧ a + 8 ≤ n) ∧ (blocksN l).Pairwise Apart8 := by
  refine ⟨fun a ha => ?_, ?_⟩
  · obtain ⟨k, hk, rfl⟩ := blocksN_mem ha; omega
  · have h1 := blocksN_nodup l
    have h2 : ∀ a ∈ blocksN l, a % 16 = 0 := fun a ha => by obtain ⟨k, hk, rfl⟩ := blocksN_mem ha; omega
    refine List.Pairwise.imp_of_mem ?_ h1
    intro a b ha hb hne
    have := h2 a ha
    have := h2 b hb
    unfold Apart8; omega
theorem allN_chain {s : LS} {r : List Nat} (hc : Chain s.L s.h r) (hn : s.n = r.length) (hr : r.length ≤ s.L.length) : allN s = some r := by
  unfold allN
  rw [if_neg (by omega), rowF_chain hc (by omega)]
  simp only []
  rw [if_pos (by omega)]
end Go.Proofs.YtomepdgddpajoaaDoor.ListMath
