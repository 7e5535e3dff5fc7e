/- A []uint8 that came in, as numbers; small facts on numbers that came in. -/
import Derived.Test.YtgaecgijmnkdgaaElems
namespace Go.Proofs.Ytgaecgijmnkdgaa
open Go.RowKit
set_option linter.unusedVariables false

theorem mod_of {n m k : Nat} (h : n % m = k) : Int.tmod (n : Int) (m : Int) = (k : Int) ∧ (n : Int) % (m : Int) = (k : Int) := by
  rw [← h]; exact ⟨(Int.ofNat_tmod _ _).symm, (Int.natCast_emod _ _).symm⟩
theorem u8_of {n : Int} (h : (Lit.int .u8 n).wf = true) : n = ((n.toNat : Nat) : Int) ∧ n.toNat ≤ 255 := by
  simp [Lit.wf, IntKind.min, IntKind.max, IntKind.signed, IntKind.bits] at h; omega
/-- A slice of bytes that reads as L, at every world that is as w is in w's blocks. -/
structure BytesIn (w : World) (a : Option Addr) (nn : Nat) (L : List Nat) : Prop where
  len : nn = L.length
  max : nn ≤ 9223372036854775807
  le : ∀ j, j < nn → L.getD j 0 ≤ 255
  cell : ∀ w', Below w.heap.size w w' → ∀ j, j < nn → ∃ b off, a = some ⟨b, off, none⟩ ∧ w'.cell? ⟨b, off + j, none⟩ = some (.int .u8 ((L.getD j 0 : Nat) : Int))
theorem NumsAt.bytesIn {w : World} {a : Option Addr} {nn cap : Nat} {l : List Int} (h : NumsAt w .u8 (.slice a nn cap) l) : ∃ L, BytesIn w a nn L := by
  obtain ⟨a', cap', e, hx1, hx2, _, h4, h5⟩ := h
  injection e with e1 e2 e3
  subst e1 e2 e3
  have hget : ∀ j, j < l.length → ((l.map Int.toNat).getD j 0 ≤ 255 ∧ l.getD j 0 = (((l.map Int.toNat).getD j 0 : Nat) : Int)) := by
    intro j hj
    have hm : l[j]'hj ∈ l := List.getElem_mem hj
    have := u8_of (h5 _ hm)
    have e1 : l.getD j 0 = l[j]'hj := by simp [List.getD_eq_getElem?_getD, hj]
    have e2 : (l.map Int.toNat).getD j 0 = (l[j]'hj).toNat := by simp [List.getD_eq_getElem?_getD, hj]
    rw [e1, e2]; exact ⟨this.2, this.1⟩
  refine ⟨l.map Int.toNat, by simp, by omega, fun j hj => (hget j hj).1, fun w' hb j hj => ?_⟩
  obtain ⟨b, off, e, hc⟩ := h4 j hj
  refine ⟨b, off, e, ?_⟩
  rw [← (hget j hj).2]
  have hlt := World.block_lt_of_cell? w _ hc
  rw [hb.cell (p := ⟨b, off + j, none⟩) hlt]; exact hc
theorem BytesIn.below {w w' : World} {a : Option Addr} {nn : Nat} {L : List Nat} (h : BytesIn w a nn L) (hb : Below w.heap.size w w') : BytesIn w' a nn L :=
  ⟨h.len, h.max, h.le, fun w2 hw j hj => h.cell w2 (below_then hb hb.size hw) j hj⟩
end Go.Proofs.Ytgaecgijmnkdgaa
