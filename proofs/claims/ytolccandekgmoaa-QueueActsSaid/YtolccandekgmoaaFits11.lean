/- The acts that come in hold no more numbers than an address space does (for the Proofs of the laws with acts). -/
import Derived.Test.YtolccandekgmoaaSized
import Derived.Test.YtolccandekgmoaaGreat11
namespace Go.Proofs.Ytolccandekgmoaa
open Go.RowKit QueueMath
set_option linter.unusedVariables false

theorem fits_of {H : Type} {enc : TypeId × Value → H} {W : World} {base : Nat} {spare : Nat → Bool} {held : Bool} {t e ti : TypeId} {fs : Array Field} {f : Field} (ht : Try.prog.underlying t = some (.slice e)) (he : Try.prog.underlying e = some (.struct fs)) (hf : fs[2]? = some f) (hoff : f.offset = 2) (hft : Try.prog.underlying f.type = some (.slice ti)) (hby : Try.prog.bytesOf ti = 8) (hC : Try.prog.cellsOf e = 3)
    {fuel : Nat} {x : DataW H × List MemPlace} {a : Option Addr} {n cap len : Nat} {F : Nat → Nat → Value} (h : DataW.trod enc Try.prog W base spare held fuel t [.slice a n cap] = some x) (hB : (x.1.weights Try.prog t).all (· ≤ reachBytes) = true) (hr : Recs W (.slice a n cap) ActL len F) : Fits F len := by
  intro i hi
  obtain ⟨b, off, rfl, hc⟩ := hr.elem hi
  obtain ⟨rfl, _, _⟩ := hr.len
  have c2 := hc 2 (by simp)
  obtain ⟨l, hl⟩ : ∃ l, NumsAt W .i64 (F i 2) l := hr.leaf hi 2 _ rfl
  obtain ⟨av, cv, ev, _⟩ := hl
  rw [ev] at c2 ⊢
  have := sized_field (n := l.length) (b := av) (c := cv) ht he hf hft h hB rfl hi (by
    rw [hC, hoff, Go.WideShapes.add_plain, ← Nat.add_assoc]; exact c2)
  rw [hby] at this
  show l.length ≤ 17592186044416
  unfold reachBytes at this
  omega
end Go.Proofs.Ytolccandekgmoaa
