/- A slice of structs of three ints among what came in: its cells. Over whatever program. -/
import Derived.Test.YtfmbfonnabebmaaInts
import Derived.Deep.Slices
import Derived.Deep.Fields
import Derived.ChangeSame
namespace Go.Proofs.Ytfmbfonnabebmaa
open Go.ChangeShapes Go.WideShapes Go.RowKit Go.Deep
set_option linter.unusedVariables false
section
variable {H : Type} {enc : TypeId × Value → H} {P : Program} {w : World} {base : Nat} {spare : Nat → Bool} {held : Bool}

/-- One field of a struct whose fields have a cell each. -/
theorem field_int {fs : Array Field} {cs : List Value} {ys : List (DataW H × List MemPlace)} {n : Nat} (hone : oneCellFields P fs = true) (hl : cs.length = fs.size)
    (hf : ∀ (i : Nat) (f : Field), fs[i]? = some f → DataW.trod enc P w base spare held n f.type ((cs.drop f.offset).take (P.cellsOf f.type)) = ys[i]?)
    (hy : ys.length = fs.size) (j : Nat) (f : Field) (hj : fs[j]? = some f) (hi : P.underlying f.type = some (.int .i64)) : ∃ z : Int, cs[j]? = some (.int .i64 z) ∧ (Lit.int .i64 z).wf = true := by
  obtain ⟨ho, hk⟩ := hone_of hone j f hj
  have hjl : j < fs.size := (Array.getElem?_eq_some_iff.1 hj).1
  have h1 := hf j f hj
  rw [ho, hk, List.getElem?_eq_getElem (show j < ys.length by omega)] at h1
  obtain ⟨z, hz, _, hw⟩ := DataW.trod_int hi h1
  refine ⟨z, ?_, hw⟩
  have := congrArg (fun l => l[0]?) hz
  simpa using this

theorem open_trips {t e : TypeId} {f0 f1 f2 : Field} {fuel : Nat} {cs : List Value} {x : DataW H × List MemPlace} (ht : P.underlying t = some (.slice e)) (he : P.underlying e = some (.struct #[f0, f1, f2]))
    (hone : oneCellFields P #[f0, f1, f2] = true) (hC : P.cellsOf e = 3) (h0 : P.underlying f0.type = some (.int .i64)) (h1 : P.underlying f1.type = some (.int .i64)) (h2 : P.underlying f2.type = some (.int .i64))
    (h : DataW.trod enc P w base spare held fuel t cs = some x) :
    ∃ v l, cs = [v] ∧ IsTrips w v l ∧ ∃ a n c, v = .slice a n c := by
  rcases open_slice ht h with ⟨hcs, _⟩ | ⟨a, len, cap, m, n, D, Pl, hcs, hb, hl, hm, hmm, hx, hi⟩
  · exact ⟨_, [], hcs, .ofNil, _, _, _, rfl⟩
  · have hlm : len ≤ m := by rw [hmm]; split <;> omega
    have cell : ∀ i, ∃ t : Int × Int × Int, i < len → w.cell? (a.add (i * 3 + 0)) = some (.int .i64 t.1) ∧ w.cell? (a.add (i * 3 + 1)) = some (.int .i64 t.2.1) ∧ w.cell? (a.add (i * 3 + 2)) = some (.int .i64 t.2.2) ∧ (Lit.int .i64 t.1).wf = true ∧ (Lit.int .i64 t.2.1).wf = true ∧ (Lit.int .i64 t.2.2).wf = true := by
      intro i
      by_cases hil : i < len
      · obtain ⟨cs', hc, ht'⟩ := hi i (by omega)
        rw [hC] at hc
        obtain ⟨ys, n', _, _, hlen, hyl, hf⟩ := DataW.trod_struct he ht'
        rw [hC] at hlen
        obtain ⟨_, _, hat⟩ := World.cells?_some hc
        obtain ⟨z0, e0, w0⟩ := field_int hone (by simpa using hlen) hf hyl 0 f0 rfl h0
        obtain ⟨z1, e1, w1⟩ := field_int hone (by simpa using hlen) hf hyl 1 f1 rfl h1
        obtain ⟨z2, e2, w2⟩ := field_int hone (by simpa using hlen) hf hyl 2 f2 rfl h2
        refine ⟨(z0, z1, z2), fun _ => ⟨?_, ?_, ?_, w0, w1, w2⟩⟩
        · rw [← add_add, hat 0 (by omega), e0]
        · rw [← add_add, hat 1 (by omega), e1]
        · rw [← add_add, hat 2 (by omega), e2]
      · exact ⟨(0, 0, 0), fun h => absurd h hil⟩
    refine ⟨_, (List.range len).map (fun i => Classical.choose (cell i)), hcs, IsTrips.ofRow hl hm (fun i hil => Classical.choose_spec (cell i) hil), _, _, _, rfl⟩
end
end Go.Proofs.Ytfmbfonnabebmaa
