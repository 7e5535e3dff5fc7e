/- What the laws of layer 9 keep while blocks come: a page of a law's own, a row of those that came. -/
import Derived.Test.YtlnlipjnljbegaaMade9
import Derived.Test.YtlnlipjnljbegaaPageFresh
import Derived.Test.YtlnlipjnljbegaaBytesIn
import Derived.Test.YtlnlipjnljbegaaQuiet
import Derived.Laws.Small
import Derived.IntWalk
import Derived.Deep.RegionLaw
import Derived.Deep.RegionHeld3
namespace Go.Proofs.Ytlnlipjnljbegaa
open Go.RowKit ListMath PageMath GeoMath
set_option linter.unusedVariables false

theorem size_bd (a : Nat) : 16 ≤ sizeN a ∧ sizeN a ≤ 256 := by unfold sizeN; omega
theorem count_bd (a : Nat) : 1 ≤ countN a ∧ countN a ≤ 60 := by unfold countN; omega
/-- Since w, a law's page whose blocks lie below nb, and a row of numbers of the law's own beyond k. -/
structure Row (v : Value) (l : List Nat) (k : Nat) (wr : World) : Prop where
  vec : Vec Elem.u64s wr v l
  far : ∀ b, In v b → k ≤ b
section
variable {v : Value} {l : List Nat} {k : Nat} {w w' : World}
theorem Row.nil (k : Nat) (w : World) : Row (.slice none 0 0) [] k w := ⟨Vec.nil _, fun b h => by cases h⟩
theorem Row.upd {T : Nat → Prop} (h : Row v l k w) (u : Upd T w w') (hT : ∀ b, T b → b < k) : Row v l k w' := ⟨h.vec.upd u fun b hb hx => by have := h.far b hb; have := hT b hx; omega, h.far⟩
theorem Row.upd' {T : Nat → Prop} (h : Row v l k w) (u : Upd T w w') (hT : ∀ b, In v b → ¬ T b) : Row v l k w' := ⟨h.vec.upd u hT, h.far⟩
theorem Row.grew (h : Row v l k w) (hb : Below w.heap.size w w') : Row v l k w' := ⟨h.vec.upd (updFalse_of hb) fun _ _ => id, h.far⟩
theorem Row.alloc (h : Row v l k w) (o : Obj) : Row v l k (w.alloc o) := h.grew ((Below.refl _ w).alloc (Nat.le_refl _) o)
theorem Row.own {C : World → Prop} {O : Nat → Prop} {nb : Nat} (h : Row v l k w) (u : Upd O w w') (hO : ∀ b, O b → b < nb) (hk : nb ≤ k) : Row v l k w' := h.upd u fun b hb => Nat.lt_of_lt_of_le (hO b hb) hk
theorem Row.slice (h : Row v l k w) : ∃ a cap, v = .slice a l.length cap ∧ l.length ≤ cap ∧ cap ≤ 9223372036854775807 := h.vec.slice'
theorem Row.cell {b o n cap q x : Nat} (h : Row (.slice (some ⟨b, o, none⟩) n cap) l k w) (hx : l[q]? = some x) : w.cell? ⟨b, o + q, none⟩ = some (.int .u64 (x : Int)) := by
  obtain ⟨b', o', e, hc⟩ := h.vec.seq.elem hx
  injection e with e
  injection e with e1 e2 _
  subst e1 e2
  have := hc 0 (.int .u64 (x : Int)) rfl
  simpa [Elem.u64s] using this
/-- Behind an append. -/
theorem Row.app {v' : Value} {l' : List Nat} (h : Row v l k w) (hs : k ≤ w.heap.size) (hv : Vec Elem.u64s w' v' l') (hin : ∀ b, In v' b → In v b ∨ w.heap.size ≤ b) : Row v' l' k w' :=
  ⟨hv, fun b hb => by rcases hin b hb with x | x; exact h.far b x; exact Nat.le_trans hs x⟩
end
theorem Upd.after {S : Nat → Prop} {w w' w2 : World} (hb : Below w.heap.size w w') (u : Upd S w' w2) : Upd S w w2 := ((updFalse_of hb).mono (fun _ h => h.elim)).trans u
theorem sizeU (w : World) : (sizeOf (Try.prog.elem 38)).run Try.prog w = .ok Elem.u64s.size w := by kernel_rfl
theorem Has.hi {w : World} {C : PgC w} {pp p g nb : Nat} {O : Nat → Prop} {c : Addr} {L : List Nat} {S : PG} {w' : World} (h : Has C pp p g O nb c L S w') : ∀ b, O b → b < nb := fun b hb => (h.lo b hb).2
/-- So many came of a new page, all of them in a row. -/
def CameTo (w : World) (C : PgC w) (pp p g : Nat) (O : Nat → Prop) (nb : Nat) (c : Addr) (s n k : Nat) (b9 : Nat) (t9 : TypeId) (c9 : Array Value) (v i : Value) (wr : World) : Prop :=
  ∃ (j : Nat) (L : List Nat), j ≤ n ∧ i = .int .i64 (j : Int) ∧ Has C pp p g O nb c L (fresh 1024 s n j) wr ∧ Row v (news 1024 s 0 j) k wr ∧ Blk wr b9 t9 c9 ∧ k ≤ wr.heap.size
theorem news0 (f s j : Nat) : news f s 0 (j + 1) = news f s 0 j ++ [f + j * s] := by rw [news_snoc, Nat.zero_add]
theorem news0_blk {f s n a : Nat} (h : a ∈ news f s 0 n) : IsBlk f s n a := by have := news_blk h; rwa [Nat.zero_add] at this
theorem Vec.newAt (w : World) (t : TypeId) (g : Nat) (hg : g = w.heap.size) : Vec Elem.u64s (w.alloc (.cells #[] t)) (.slice (some ⟨g, 0, none⟩) 0 0) [] := by subst hg; exact Vec.new w t
theorem in_at {g n c k : Nat} (h : In (.slice (some ⟨g, 0, none⟩) n c) k) : g = k := in_blk h
theorem below_in {B : Nat} {a w w' : World} {v : Value} (hb : Below B a w) (hs : B ≤ w.heap.size) (hin : ∀ k, In v k → B ≤ k) (u : Upd (In v) w w') : Below B a w' := hb.trans (u.below hin hs)
/-- All are used, or were freed. -/
def full (s n : Nat) (U D : List Nat) : PG := ⟨1024, s, n, n, U.length, [], D.reverse, 0, 0, 0⟩
theorem fresh_end (s n : Nat) : fresh 1024 s n n = full s n (news 1024 s 0 n) [] := by
  have hm : mk n n = n := by unfold mk; omega
  unfold fresh full
  rw [hm, Nat.sub_self, news_len]; rfl
theorem drop_len {U : List Nat} {k x : Nat} (hx : U[k]? = some x) : (U.take k ++ U.drop (k + 1)).length = U.length - 1 ∧ 0 < U.length ∧ k < U.length := by
  obtain ⟨hl, _⟩ := List.getElem?_eq_some_iff.1 hx
  rw [List.length_append, List.length_take, List.length_drop]
  omega
theorem drop_perm {U : List Nat} {k x : Nat} (hx : U[k]? = some x) : U.Perm (x :: (U.take k ++ U.drop (k + 1))) := by
  obtain ⟨hl, e⟩ := List.getElem?_eq_some_iff.1 hx
  have h : U.take k ++ x :: U.drop (k + 1) = U := by rw [← e, List.getElem_cons_drop, List.take_append_drop]
  have := List.perm_middle (a := x) (l₁ := U.take k) (l₂ := U.drop (k + 1))
  rwa [h] at this
theorem full_free {s n k x : Nat} {U D : List Nat} (hm : mayN 1024 s (n : Int) = true) (hx : U[k]? = some x) (hb : IsBlk 1024 s n x) : freeP (full s n U D) [x] = (full s n (U.take k ++ U.drop (k + 1)) (D ++ [x]), 0) := by
  obtain ⟨h1, h2, _⟩ := drop_len hx
  rw [free_all (L := []) [x] (full s n U D) hm (Nat.le_refl _) (fun a ha => by rw [List.mem_singleton.1 ha]; exact hb) (by show 1 ≤ U.length; omega)]
  unfold freed full
  rw [h1]
  simp
theorem blk_u64 {s j n : Nat} (hs : s ≤ 256) (hn : n ≤ 60) (hj : j < n) : 1024 + j * s ≤ 16384 := by
  have := Nat.mul_le_mul (show j ≤ 60 by omega) hs
  omega
end Go.Proofs.Ytlnlipjnljbegaa
