/- Two heaps over one arena and one memory (HeapMoves): segments leave the one, and the other adopts them. -/
import Derived.Test.YtmjeelnidiijdaaGreatDoorGets12
namespace Go.Proofs.YtmjeelnidiijdaaGreatDoor
open Go.RowKit ListMath PageMath GeoMath SegMath ClassMath HeapMath QueueMath ArenaMath
set_option linter.unusedVariables false
section
variable {w0 w w' : World} {C : SgC w0} {K : HpC w0 C} {h o id p g q : Nat} {O O1 O2 own T S : Nat → Prop} {L U : List Nat} {A : St} {B B1 M B2 R R' : List SB} {Q Q1 Q2 : Nat → QR} {b : SB}
/-- Beside a call on the other one. -/
theorem Hz.other (z : Hz C K.Hp w h O id p g q own L A B R Q) (u : Upd T w w') (hT : ∀ k, T k → ¬ O k) (e : Env C w' p g q own L A (B ++ R')) (hE : ∀ k, EO p g own (B ++ R') k → EO p g own (B ++ R) k) : Hz C K.Hp w' h O id p g q own L A B R' Q :=
  ⟨K.upd z.hp u hT, e, z.good, fun k hk x => z.ap k hk (hE k x), fun k hk => z.lo k (hk.imp (fun x => x) (hE k))⟩
/-- Heap h has B1, heap o has B2, M neither. -/
structure Two (C : SgC w0) (K : HpC w0 C) (h o p g q : Nat) (O1 O2 own : Nat → Prop) (L : List Nat) (A : St) (B1 M B2 : List SB) (Q1 Q2 : Nat → QR) (S : Nat → Prop) (w : World) : Prop where
  z1 : Hz C K.Hp w h O1 7 p g q own L A B1 (M ++ B2) Q1
  z2 : Hz C K.Hp w o O2 9 p g q own L A B2 (M ++ B1) Q2
  ap : ∀ k, O1 k → ¬ O2 k
  s : ∀ k, S k → ¬ O1 k ∧ ¬ O2 k ∧ ¬ EO p g own (B1 ++ (M ++ B2)) k
  below : Below w0.heap.size w0 w
  lt : ∀ k, S k → k < w.heap.size
theorem Two.grew (z : Two C K h o p g q O1 O2 own L A B1 M B2 Q1 Q2 S w) (hb : Below w.heap.size w w') : Two C K h o p g q O1 O2 own L A B1 M B2 Q1 Q2 S w' :=
  ⟨z.z1.grew hb, z.z2.grew hb, z.ap, z.s, below_then z.below z.below.size hb, fun k hk => Nat.lt_of_lt_of_le (z.lt k hk) hb.size⟩
theorem Two.forget {S' : Nat → Prop} (z : Two C K h o p g q O1 O2 own L A B1 M B2 Q1 Q2 S w) (hs : ∀ k, S' k → S k) : Two C K h o p g q O1 O2 own L A B1 M B2 Q1 Q2 S' w :=
  ⟨z.z1, z.z2, z.ap, fun k hk => z.s k (hs k hk), z.below, fun k hk => z.lt k (hs k hk)⟩
/-- All blocks since w that there are now are the law's own. -/
theorem Two.ours (z : Two C K h o p g q O1 O2 own L A B1 M B2 Q1 Q2 S w) (hb : Below w.heap.size w w') : Two C K h o p g q O1 O2 own L A B1 M B2 Q1 Q2 (fun k => S k ∨ (w.heap.size ≤ k ∧ k < w'.heap.size)) w' := by
  have z' := z.grew hb
  refine ⟨z'.z1, z'.z2, z.ap, fun k hk => ?_, z'.below, fun k hk => hk.elim (z'.lt k) fun e => e.2⟩
  rcases hk with hk | hk
  · exact z.s k hk
  · exact ⟨fun e => by have := (K.num z.z1.hp).2.1 k e; omega, fun e => by have := (K.num z.z2.hp).2.1 k e; omega, fun e => by have := z.z1.env.lt e; omega⟩
/-- Its owner's cell was asked. -/
abbrev askO (b : SB) : SB := { b with X := { b.X with oa := b.X.oa + 1 } }
end
end Go.Proofs.YtmjeelnidiijdaaGreatDoor
