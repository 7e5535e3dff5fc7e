/- What a slice of bytes that came in reads as. Over whatever program. -/
import Derived.Test.YtkgddefahfbjaaaBlk
namespace Go.Proofs.Ytkgddefahfbjaaa
open Go.RowKit

def IsB8 (w : World) (v : Value) (l : List Nat) : Prop := Reads8 w v l ∧ MemMath.Byt l ∧ l.length ≤ 9223372036854775807 ∧ (∀ a n cap, v = .slice a n cap → n ≤ cap ∧ cap ≤ 9223372036854775807)
theorem IsB8.ofNil {w : World} : IsB8 w (.slice none 0 0) [] :=
  ⟨Reads8.nil _, MemMath.Byt.nil, by simp, by intro a n cap h; injection h; omega⟩
theorem u8_bounds {n : Int} (h : (Lit.int .u8 n).wf = true) : 0 ≤ n ∧ n ≤ 255 := by
  simp [Lit.wf, IntKind.min, IntKind.max, IntKind.signed, IntKind.bits] at h; omega
theorem IsB8.ofRow {w : World} {x : Addr} {len cap : Nat} {zs : List Int} (hl : len ≤ cap) (hm : cap ≤ maxLen) (hz : zs.length = cap) (hc : ∀ i, i < zs.length → w.cell? (x.add i) = some (.int .u8 (zs.getD i 0)))
    (hw : ∀ n ∈ zs, (Lit.int .u8 n).wf = true) : IsB8 w (.slice (some x) len cap) ((zs.take len).map Int.toNat) := by
  have hlen : ((zs.take len).map Int.toNat).length = len := by simp; omega
  have hm' : cap ≤ 9223372036854775807 := by simp only [maxLen] at hm; omega
  refine ⟨?_, ?_, by omega, by intro a n c h; injection h; omega⟩
  · by_cases h0 : 0 < zs.length
    · obtain ⟨b, off, rfl, hc'⟩ := ints_at hc h0
      refine .inl ⟨b, off, cap, by rw [hlen], fun j hj => ?_⟩
      rw [hlen] at hj
      rw [hc' j (by omega)]
      have hb := u8_bounds (hw (zs.getD j 0) (by simp [List.getD_eq_getElem?_getD, (show j < zs.length by omega)]))
      have e : ((zs.take len).map Int.toNat).getD j 0 = (zs.getD j 0).toNat := by
        simp [List.getD_eq_getElem?_getD, List.getElem?_take_of_lt hj, (show j < zs.length by omega)]
      rw [e, Int.toNat_of_nonneg hb.1]
    · have : zs = [] := List.length_eq_zero_iff.1 (by omega)
      subst this
      obtain rfl : len = 0 := by simp at hz; omega
      exact .inr ⟨by simp, some x, cap, rfl, by simp⟩
  · intro y hy
    obtain ⟨n, hn, rfl⟩ := List.mem_map.1 hy
    have hb := u8_bounds (hw n (List.mem_of_mem_take hn))
    omega
end Go.Proofs.Ytkgddefahfbjaaa
