/- Layer 9: a map of bytes by the addresses of used blocks; each block has its byte all over. -/
import Derived.Test.YtlnlipjnljbegaaLasts9
import Derived.Maps.RangeWalk
namespace Go.Proofs.Ytlnlipjnljbegaa
open Go.RowKit Go.Maps ListMath PageMath GeoMath
set_option linter.unusedVariables false

abbrev keyN (x : Nat) : Lit := .int .u64 (x : Int)
/-- The map has just U, and at each of these what f says. -/
structure Told (D : DataW Unit) (U : List Nat) (f : Nat → Nat) : Prop where
  map : IsMap D
  has : ∀ x : Nat, Maps.has D (keyN x) = decide (x ∈ U)
  at_ : ∀ (x : Nat) (z : DataW Unit), D.atKey (keyN x) z = if x ∈ U then .lit (.int .u8 ((f x : Nat) : Int)) else z
/-- Each of U has its byte all over. -/
def Holds (s : Nat) (U L : List Nat) (f : Nat → Nat) : Prop := ∀ u ∈ U, MemMath.part L u s = MemMath.rep s (f u) ∧ f u ≤ 255
theorem keyN_ne {x y : Nat} (h : x ≠ y) : keyN x ≠ keyN y := by intro e; injection e with _ e; omega
theorem told_nil : Told (.map []) [] (fun _ => 0) := ⟨isMap_empty, fun x => rfl, fun x z => rfl⟩
theorem Told.perm {D : DataW Unit} {U V : List Nat} {f : Nat → Nat} (h : Told D U f) (e : U.Perm V) : Told D V f :=
  ⟨h.map, fun x => by rw [h.has x]; simp only [e.mem_iff], fun x z => by rw [h.at_ x z]; simp only [e.mem_iff]⟩
theorem Told.put {D : DataW Unit} {U : List Nat} {f : Nat → Nat} (h : Told D U f) (x c : Nat) : Told (D.put (keyN x) (.lit (.int .u8 (c : Int)))) (U ++ [x]) (fun y => if y = x then c else f y) := by
  refine ⟨h.map.put _ _, fun y => ?_, fun y z => ?_⟩
  · by_cases hy : y = x
    · subst hy
      rw [has_put_same h.map (by trivial)]; simp
    · rw [has_put_other (keyN_ne hy), h.has y]
      simp [hy]
  · by_cases hy : y = x
    · subst hy
      rw [atKey_put_same h.map (by trivial)]; simp
    · rw [atKey_put_other (keyN_ne hy), h.at_ y z]
      simp [hy]
theorem Told.del {D : DataW Unit} {x : Nat} {R : List Nat} {f : Nat → Nat} (h : Told D (x :: R) f) (hn : x ∉ R) : Told (D.del (keyN x)) R f := by
  refine ⟨h.map.del _, fun y => ?_, fun y z => ?_⟩
  · by_cases hy : y = x
    · subst hy
      rw [has_del_same]; simp [hn]
    · rw [has_del_other (keyN_ne hy), h.has y]
      simp [hy]
  · by_cases hy : y = x
    · subst hy
      rw [atKey_del_same, if_neg hn]
    · rw [atKey_del_other (keyN_ne hy), h.at_ y z]
      simp [hy]
/-- An entry of the map. -/
theorem Told.entry {D : DataW Unit} {U : List Nat} {f : Nat → Nat} (h : Told D U f) {x c : Nat} (hat : ∀ z, D.atKey (keyN x) z = .lit (.int .u8 (c : Int))) : x ∈ U ∧ c = f x := by
  by_cases hx : x ∈ U
  · have := hat (.lit (.bool true))
    rw [h.at_, if_pos hx] at this
    injection this with this
    injection this with _ this
    exact ⟨hx, by omega⟩
  · have := hat (.lit (.bool true))
    rw [h.at_, if_neg hx] at this
    injection this with this
    cases this
theorem Holds.same {s : Nat} {U L L' : List Nat} {f : Nat → Nat} (h : Holds s U L f) (k : Same s U L L') : Holds s U L' f := fun u hu => ⟨(k u hu).trans (h u hu).1, (h u hu).2⟩
theorem Holds.less {s : Nat} {U V L : List Nat} {f : Nat → Nat} (h : Holds s U L f) (k : ∀ u ∈ V, u ∈ U) : Holds s V L f := fun u hu => h u (k u hu)
theorem Holds.put {s : Nat} {U L M : List Nat} {f : Nat → Nat} {x c : Nat} (h : Holds s U L f) (hx : x ∉ U) (h1 : MemMath.part M x s = MemMath.rep s c) (hc : c ≤ 255) (h2 : ∀ u ∈ U ++ [x], u ≠ x → MemMath.part M u s = MemMath.part L u s) : Holds s (U ++ [x]) M (fun y => if y = x then c else f y) := by
  intro u hu
  by_cases e : u = x
  · subst e
    simp only [if_true]
    exact ⟨h1, hc⟩
  · simp only [if_neg e]
    have hu' : u ∈ U := by
      rcases List.mem_append.1 hu with x | x
      · exact x
      · exact absurd (List.mem_singleton.1 x) e
    exact ⟨(h2 u hu e).trans (h u hu').1, (h u hu').2⟩
theorem holds_nil (s : Nat) (L : List Nat) (f : Nat → Nat) : Holds s [] L f := fun u hu => by cases hu
theorem reads8_one (w : World) (t : TypeId) (j : Nat) : Reads8 (w.alloc (.cells #[.int .u8 (j : Int)] t)) (.slice (some ⟨w.heap.size, 0, none⟩) 1 1) [j] := by
  refine .inl ⟨w.heap.size, 0, 1, rfl, fun i hi => ?_⟩
  have : i = 0 := by simp at hi; omega
  subst this
  exact (Blk.new w t #[.int .u8 (j : Int)]).cell 0
theorem ranges_upd {H : Type} {P : Program} {Z : Nat → Prop} {w w' : World} {k : TypeId} {R : Value → Option (DataW H × List MemPlace)} {b r n : Nat} {D : DataW H} {left : Lit → Bool} {cnt : Nat} (h : w.ranges P k R b r n D left cnt) (u : Upd Z w w') (hb : ¬ Z b) (hr : ¬ Z r) : w'.ranges P k R b r n D left cnt := by
  have h1 := h.owns.lt
  have h2 := h.lt
  obtain ⟨es, clock, since, seen, c0, k1, F, hs, hD, k2, rest⟩ := h
  exact ⟨es, clock, since, seen, c0, (u.block b h1 hb).trans k1, F, hs, hD, (u.block r h2 hr).trans k2, rest⟩
theorem zeroU8 (w : World) : (zeroValue 5).run Try.prog w = .ok (.int .u8 0) w := by kernel_rfl
theorem keyN_of {x : Nat} (hx : x ≤ 18446744073709551615) : keyOf Try.prog 22 (.int .u64 (x : Int)) = some (keyN x) := keyOf_int_mk (P := Try.prog) Try.underlying22 (by simp [Lit.wf, IntKind.min, IntKind.max, IntKind.signed, IntKind.bits]; omega)
theorem plain8 {c : Nat} (hc : c ≤ 255) : plainElem (H := Unit) Try.prog 5 (.int .u8 (c : Int)) = some (.lit (.int .u8 (c : Int)), []) := plainElem_int Try.underlying5 (by simp [Lit.wf, IntKind.min, IntKind.max, IntKind.signed, IntKind.bits]; omega)
/-- The next entry of a map of bytes by numbers, both as Nats. -/
theorem wpList_next_nn {w : World} {ops : Array Oper} {rest : List Oper} {o : Oper} {a : Act} {Q : Exit → Act → World → Prop} (hg : o.guard = none) (it : Operand) (hop : o.op = Op.next it false) (b r n : Nat) (D : DataW Unit) (left : Lit → Bool) (cnt : Nat) (hit : a.eval it = .pointer (some ⟨r, 0, none⟩)) (h : w.ranges Try.prog 22 (plainElem Try.prog 5) b r n D left cnt)
    (hDone : cnt = 0 → (∀ kl, left kl = false) → wpList Try.prog ops Q rest (a.put o.dst (.tuple #[.bool false])) w)
    (hMore : ∀ (x c : Nat) (w' : World) (cnt' : Nat), x ≤ 18446744073709551615 → c ≤ 255 → (∀ z, D.atKey (keyN x) z = .lit (.int .u8 (c : Int))) → w'.ranges Try.prog 22 (plainElem Try.prog 5) b r n D (fun z => left z && !z.sameKey (keyN x)) cnt' → cnt' < cnt →
      w.grownBy w' (some r) → w'.heap.size = w.heap.size → (Instr.entry (.pointer (some ⟨r, 0, none⟩))).run Try.prog w' = .ok (.tuple #[.int .u64 (x : Int), .int .u8 (c : Int)]) w' → wpList Try.prog ops Q rest (a.put o.dst (.tuple #[.bool true, .int .u64 (x : Int), .int .u8 (c : Int)])) w') :
    wpList Try.prog ops Q (o :: rest) a w :=
  wpList_next_ranges_ii _ hg it hop 22 5 .u64 .u8 keyU Try.underlying22 Try.underlying5 b r n D left cnt hit h hDone fun x c w' cnt' hx hc _ hat hrg hlt hgr hsz hen => by
    obtain ⟨ex, hx'⟩ := u64_bd9 hx
    have hc' : c = ((c.toNat : Nat) : Int) ∧ c.toNat ≤ 255 := by
      simp [Lit.wf, IntKind.min, IntKind.max, IntKind.signed, IntKind.bits] at hc; omega
    rw [ex] at hat hrg hen ⊢
    rw [hc'.1] at hat hen ⊢
    exact hMore _ _ w' cnt' hx' hc'.2 hat hrg hlt hgr hsz hen
end Go.Proofs.Ytlnlipjnljbegaa
