/- Layer 7: but links nothing of memory is written; two lists, blocks moved from one to the other. -/
import Derived.Test.YtmnnmgphiiedgaaTwo7
namespace Go.Proofs.Ytmnnmgphiiedgaa.ListMath
open MemMath
set_option linter.unusedVariables false

/-- Is a byte one of a link of these blocks? -/
def cov (l : List Nat) (y : Nat) : Bool := l.any fun a => decide (a ≤ y) && decide (y < a + 8)
theorem cov_iff {l : List Nat} {y : Nat} : cov l y = true ↔ ∃ a ∈ l, a ≤ y ∧ y < a + 8 := by
  unfold cov; rw [List.any_eq_true]; simp
/-- M is L but for links of these blocks. -/
def Wr (l L M : List Nat) : Prop := M.length = L.length ∧ ∀ i, cov l i = false → M.getD i 0 = L.getD i 0
theorem Wr.refl (l L : List Nat) : Wr l L L := ⟨rfl, fun _ _ => rfl⟩
theorem Wr.trans {l L M K : List Nat} (h : Wr l L M) (k : Wr l M K) : Wr l L K := ⟨k.1.trans h.1, fun i hi => (k.2 i hi).trans (h.2 i hi)⟩
theorem Wr.mono {l l' L M : List Nat} (h : Wr l L M) (hs : ∀ a ∈ l, a ∈ l') : Wr l' L M := ⟨h.1, fun i hi => h.2 i (by
  rw [Bool.eq_false_iff] at hi ⊢
  intro hc
  obtain ⟨a, ha, hb⟩ := cov_iff.1 hc
  exact hi (cov_iff.2 ⟨a, hs a ha, hb⟩))⟩
theorem Wr.put {l L : List Nat} {a x : Nat} (ha : a ∈ l) (h8 : a + 8 ≤ L.length) : Wr l L (put8 L a x) := by
  refine ⟨length_put8 h8, fun i hi => ?_⟩
  unfold put8
  rw [getD_splice (by rw [length_le]; exact h8), length_le, if_neg]
  intro hc
  rw [Bool.eq_false_iff] at hi
  exact hi (cov_iff.2 ⟨a, ha, hc⟩)
theorem Wr.push {IN : List Nat} : ∀ (l : List Nat) (s : LS), (∀ a ∈ l, a ∈ IN) → Wr IN s.L (pushN s l).1.L
  | [], s, _ => Wr.refl _ _
  | a :: t, s, h => by
    have h1 : Wr IN s.L (push1 s a).1.L := by
      unfold push1
      split
      · exact Wr.refl _ _
      · split
        · rename_i h8; exact Wr.put (h a (List.mem_cons_self ..)) h8
        · exact Wr.refl _ _
    unfold pushN
    split
    · exact h1.trans (Wr.push t _ (fun b hb => h b (List.mem_cons_of_mem _ hb)))
    · exact h1
theorem wr_join {L : List Nat} {lh oh : Nat} {ln on : Int} {o : List Nat} {s t : LS} (ho : Chain L oh o) (hon : on = (o.length : Int)) (hol : o.length ≤ L.length) (h : joinN L lh ln oh on = some (s, t)) : Wr o L s.L := by
  have e := allN_chain (s := ⟨L, oh, on⟩) ho hon hol
  unfold joinN at h
  rw [e] at h
  cases o with
  | nil => simp only [Option.some.injEq, Prod.mk.injEq] at h; rw [← h.1]; exact Wr.refl _ _
  | cons a q =>
    simp only [Option.some.injEq, Prod.mk.injEq] at h
    rw [← h.1]
    have hm : lastD (a :: q) ∈ a :: q := by
      rcases List.eq_nil_or_concat (a :: q) with h | ⟨q', z, h⟩
      · cases h
      · rw [h, List.concat_eq_append, lastD_snoc]; simp
    obtain ⟨i, hi⟩ := List.getElem?_of_mem hm
    have := ho.drop i _ hi
    have h8 : lastD (a :: q) + 8 ≤ L.length := by
      obtain ⟨hl, e2⟩ := List.getElem?_eq_some_iff.1 hi
      rw [List.drop_eq_getElem_cons hl] at this
      obtain ⟨x, _, y, _⟩ := this
      rw [x]; exact y
    exact Wr.put hm h8
theorem cov_snoc {l : List Nat} {j a : Nat} (h : l[j]? = some a) (y : Nat) : cov (l.take (j + 1)) y = (cov (l.take j) y || (decide (a ≤ y) && decide (y < a + 8))) := by
  unfold cov; rw [List.take_add_one, List.any_append, h]; simp
end Go.Proofs.Ytmnnmgphiiedgaa.ListMath
namespace Go.Proofs.Ytmnnmgphiiedgaa
open Go.RowKit ListMath
set_option linter.unusedVariables false
theorem Two.popX {w : World} (C : Li w) {L : List Nat} {hx : Nat} {nx : Int} {r : List Nat} {x : Nat} (hc : Chain L hx (x :: r)) (hL : L.length ≤ 1048576) (hn : nx = (r.length : Int) + 1) (hb : r.length ≤ 100000) :
    ∃ h2, Chain L h2 r ∧ ∀ {p g lx ly hy : Nat} {ny : Int} (w' : World), Two w p g lx ly L hx nx hy ny w' →
      Calls Try.prog 13 #[.pointer (some ⟨lx, 0, none⟩), .pointer (some ⟨p, 0, none⟩)] w' fun e w2 => e = .returned (.tuple #[.int .u64 (x : Int), .int .i64 0]) ∧ Two w p g lx ly L h2 (r.length : Int) hy ny w2 ∧ Upd (fun b => b = lx) w' w2 := by
  have hh := hc.head_le hL
  obtain ⟨rfl, h0, h8, hc⟩ := hc
  have e : popN ⟨L, hx, nx⟩ = (⟨L, linkAt L hx, nx - 1⟩, hx, 0) := by unfold popN; rw [if_neg (by show ¬ nx = 0; omega), if_pos h8]
  refine ⟨linkAt L hx, hc, fun {p g lx ly hy ny} w' t => ?_⟩
  have := C.pop w' t.below (s := ⟨L, hx, nx⟩) t.mem t.bx (by show hx ≤ 18446744073709551615; omega) ⟨by show 0 ≤ nx; omega, by show nx ≤ 1000000000; omega⟩
  rw [e] at this
  refine this.mono fun e w2 ⟨he, hl, hu⟩ => ⟨he, ?_, hu⟩
  have hl' : Blk w2 lx 33 (lsC (linkAt L hx) (r.length : Int)) := by
    have : nx - 1 = (r.length : Int) := by omega
    rw [← this]; exact hl
  exact ⟨t.mem.upd hu (t.mem.pnl t.bx).1.symm (t.mem.pnl t.bx).2.symm, hl', t.by'.upd hu (fun e => t.ne e.symm), t.fg, t.fx, t.fy, t.ne, t.below.trans (hu.below (fun b hb => by subst hb; exact t.fx) t.below.size)⟩
theorem Two.memTurn {w w' w2 : World} {p g lx ly hx hy : Nat} {L M : List Nat} {nx ny : Int} (h : Two w p g lx ly L hx nx hy ny w') (hm : IsMem w2 p g M) (hu : Upd (fun b => b = g) w' w2) : Two w p g lx ly M hx nx hy ny w2 :=
  ⟨hm, h.bx.upd hu (h.mem.pnl h.bx).2, h.by'.upd hu (h.mem.pnl h.by').2, h.fg, h.fx, h.fy, h.ne, h.below.trans (hu.below (fun b hb => by subst hb; exact h.fg) h.below.size)⟩
theorem apart_symm {a b : Nat} (h : Apart8 a b) : Apart8 b a := by unfold Apart8 at h ⊢; omega
/-- One block is taken out of x and put into y. -/
theorem moved_one {w : World} (C : Li w) {R IN : List Nat} (hrp : R.Pairwise Apart8) (hr8 : ∀ a ∈ R, a ≠ 0 ∧ a + 8 ≤ 2048) (hin : ∀ a ∈ R, a ∈ IN) {M : List Nat} {hx hy j n : Nat} (hn : R.length = n) (hn2 : n ≤ 200) (hj : j < n) (hlen : M.length = 2048) (cX : Chain M hx (R.drop j)) (cY : Chain M hy (R.take j).reverse) :
    ∃ (x h2 : Nat) (M' : List Nat) (h3 : Nat), x ≤ 2048 ∧ Chain M' h2 (R.drop (j + 1)) ∧ Chain M' h3 (R.take (j + 1)).reverse ∧ M'.length = 2048 ∧ Wr IN M M' ∧
      (∀ {p g lx ly : Nat} (w' : World), Two w p g lx ly M hx ((n - j : Nat) : Int) hy (j : Int) w' →
        Calls Try.prog 13 #[.pointer (some ⟨lx, 0, none⟩), .pointer (some ⟨p, 0, none⟩)] w' fun e w2 => e = .returned (.tuple #[.int .u64 (x : Int), .int .i64 0]) ∧ Two w p g lx ly M h2 ((n - (j + 1) : Nat) : Int) hy (j : Int) w2 ∧ Upd (fun b => b = lx) w' w2) ∧
      (∀ {p g lx ly : Nat} (w' : World), Two w p g lx ly M h2 ((n - (j + 1) : Nat) : Int) hy (j : Int) w' → ∀ (a : Option Addr), Seq Elem.u64s w' (.slice a 1 1) [x] → (∀ b, In (.slice a 1 1) b → b ≠ g ∧ b ≠ ly) →
        Calls Try.prog 24 #[.pointer (some ⟨ly, 0, none⟩), .pointer (some ⟨p, 0, none⟩), .slice a 1 1] w' fun e w2 => e = .returned (.int .i64 0) ∧ Two w p g lx ly M' h2 ((n - (j + 1) : Nat) : Int) h3 ((j + 1 : Nat) : Int) w2 ∧ Upd (fun b => b = g ∨ b = ly) w' w2) := by
  subst hn
  obtain ⟨x, hx'⟩ : ∃ x, R[j]? = some x := ⟨R[j]'hj, List.getElem?_eq_getElem _⟩
  obtain ⟨hl, ex⟩ := List.getElem?_eq_some_iff.1 hx'
  have hd : R.drop j = x :: R.drop (j + 1) := by rw [List.drop_eq_getElem_cons hl, ex]
  have ht : (R.take (j + 1)).reverse = x :: (R.take j).reverse := by rw [List.take_add_one, hx']; simp
  have hmem : x ∈ R := List.mem_of_getElem? hx'
  rw [hd] at cX
  have hdl : (R.drop (j + 1)).length = R.length - (j + 1) := List.length_drop
  have htl : (R.take j).length = j := by rw [List.length_take]; omega
  obtain ⟨h2, c2, pop⟩ := Two.popX C cX (by rw [hlen]; decide) (nx := ((R.length - j : Nat) : Int)) (by rw [hdl]; omega) (by rw [hdl]; omega)
  have hsp : R = R.take j ++ x :: R.drop (j + 1) := by rw [← hd, List.take_append_drop]
  have hrp' := hrp
  rw [hsp] at hrp'
  obtain ⟨_, p2, p3⟩ := List.pairwise_append.1 hrp'
  obtain ⟨p4, _⟩ := List.pairwise_cons.1 p2
  have apY : ∀ b ∈ (R.take j).reverse, Apart8 x b := fun b hb => apart_symm (p3 b (List.mem_reverse.1 hb) x (List.mem_cons_self ..))
  obtain ⟨x0, x8⟩ := hr8 x hmem
  obtain ⟨_, g2, g3, g4⟩ := pushN_good [x] ⟨M, hy, (j : Int)⟩ _ cY (by show M.length ≤ _; omega) (by intro a ha; rw [List.mem_singleton.1 ha]; show x ≠ 0 ∧ x + 8 ≤ M.length; omega) (by intro a ha b hb; rw [List.mem_singleton.1 ha]; exact apY b hb) (List.pairwise_singleton _ _)
  refine ⟨x, h2, (pushN ⟨M, hy, (j : Int)⟩ [x]).1.L, (pushN ⟨M, hy, (j : Int)⟩ [x]).1.h, by omega, pushN_keeps [x] ⟨M, hy, (j : Int)⟩ c2 (by intro a ha b hb; rw [List.mem_singleton.1 ha]; exact p4 b hb), by rw [ht]; exact g2, g4.trans hlen, Wr.push [x] ⟨M, hy, (j : Int)⟩ (by intro a ha; rw [List.mem_singleton.1 ha]; exact hin x hmem), ?_, ?_⟩
  · intro p g lx ly w' t
    have := pop w' t
    rw [hdl] at this
    exact this
  · intro p g lx ly w' t a hq hne
    have := t.pushY C hq hne (by decide) (by decide) cY (by rw [hlen]; decide) (by intro a ha; rw [List.mem_singleton.1 ha, hlen]; omega) (by intro a ha b hb; rw [List.mem_singleton.1 ha]; exact apY b hb) (List.pairwise_singleton _ _) ⟨by omega, by omega⟩ (by simp)
    rw [g3] at this
    exact this
theorem Two.join2 {w : World} (C : Li w) {L : List Nat} {hx hy : Nat} {nx ny : Int} {l o : List Nat} (hl : Chain L hx l) (ho : Chain L hy o) (hd : ∀ a ∈ o, ∀ b ∈ l, Apart8 a b) (ho2 : o.Pairwise Apart8) (hL : L.length ≤ 1048576) (hny : ny = (o.length : Int)) (hol : o.length ≤ L.length) (hnx : nx = (l.length : Int)) (hll : l.length ≤ 100000) :
    ∃ M z, M.length = L.length ∧ Wr o L M ∧ ∀ {p g lx ly : Nat} (w' : World), Two w p g lx ly L hx nx hy ny w' → Calls Try.prog 18 #[.pointer (some ⟨lx, 0, none⟩), .pointer (some ⟨p, 0, none⟩), .pointer (some ⟨ly, 0, none⟩)] w' fun e w2 => e = .returned (.int .i64 0) ∧ Two w p g lx ly M z ((o ++ l).length : Int) 0 0 w2 ∧ Upd (fun b => b = g ∨ b = lx ∨ b = ly) w' w2 := by
  obtain ⟨M, z, e, hc, hM⟩ := join_good hl ho hd ho2 hL hny hol hnx
  have hw := wr_join ho hny hol e
  refine ⟨M, z, hM, hw, fun {p g lx ly} w' h => ?_⟩
  have := C.join w' h.below h.mem h.bx h.by' h.ne (by have := hl.head_le hL; show hx ≤ 18446744073709551615; omega) (by have := ho.head_le hL; show hy ≤ 18446744073709551615; omega) ⟨by omega, by omega⟩ ⟨by omega, by omega⟩
  rw [e] at this
  exact this.mono fun e w2 ⟨he, hm, hb1, hb2, hu⟩ => ⟨he, ⟨hm, hb1, hb2, h.fg, h.fx, h.fy, h.ne, h.below.trans (hu.below (fun b hb => by rcases hb with rfl | rfl | rfl; exact h.fg; exact h.fx; exact h.fy) h.below.size)⟩, hu⟩
end Go.Proofs.Ytmnnmgphiiedgaa
