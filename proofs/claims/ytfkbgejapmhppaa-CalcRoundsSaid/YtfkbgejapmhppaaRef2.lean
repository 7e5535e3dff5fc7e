/- The document's answers for layer 1: plus: a contract. -/
import Derived.Test.YtfkbgejapmhppaaRef1
import Derived.RegionTactic
import Derived.ChangeAlike
import Derived.BigRegion
import Derived.StillTailTactics
namespace Go.Proofs.Ytfkbgejapmhppaa.Dig
open Go.RowKit

theorem splice_numI (A : List Nat) (n : Nat) : splice ((List.replicate n 0).map numI) 0 (A.map numI) = (A ++ List.replicate (n - A.length) 0).map numI := by
  unfold splice
  simp

theorem src_cells {w w1 : World} {a : Option Addr} {c : Nat} {A : List Nat} (h : I64s w (.slice a A.length c) A) (hb : Below w.heap.size w w1) (hp : 0 < (A.map numI).length) : ∃ ad, a = some ad ∧ ∀ j v, (A.map numI)[j]? = some v → w1.cell? (ad.add j) = some v := by
  obtain ⟨a', c', e, hc⟩ := h.shape
  injection e with e1 _ _
  subst e1
  obtain ⟨b, off, rfl, hcell⟩ := hc (by simpa using hp)
  refine ⟨_, rfl, fun j v hv => ?_⟩
  rw [List.getElem?_map] at hv
  obtain ⟨x, hx, rfl⟩ := Option.map_eq_some_iff.1 hv
  have hj : j < A.length := (List.getElem?_eq_some_iff.1 hx).1
  have h0 := hcell j hj
  have hlt := World.block_lt_of_cell? w _ h0
  rw [Go.WideShapes.add_plain, hb.cell (p := ⟨b, off + j, none⟩) hlt, h0, getD_of_getElem? hx]
  rfl

def PlusRel (w : World) (A B : List Nat) (n g : Nat) (i : Value) (wr : World) : Prop := ∃ (k : Nat) (L : List Nat), k ≤ n + 1 ∧ i = .int .i64 k ∧ Adding A B L n k ∧ Row wr 3 g L ∧ Below w.heap.size w wr

theorem info1 : (Try.prog.info? 3).map (·.size) = some 1 := by kernel_rfl

set_option maxRecDepth 100000 in
set_option maxHeartbeats 1000000 in
theorem plus_in (w : World) (a1 a2 : Option Addr) (c1 c2 n : Nat) (A B : List Nat) (hA : Small A) (hB : Small B) (h1 : I64s w (.slice a1 A.length c1) A) (h2 : I64s w (.slice a2 B.length c2) B) (hn : n ≤ 1000000)
    (hmax : (A.length < B.length ∧ n = B.length) ∨ (B.length ≤ A.length ∧ n = A.length)) :
    Calls Try.prog 28 #[.slice a1 A.length c1, .slice a2 B.length c2] w (RetLong w fun R => Norm R ∧ val R = val A + val B) := by
  obtain ⟨i0, hi, hz0, hz1, hz2⟩ := info_parts infoI
  have HA := Lib.hid hA; have HB := Lib.hid hB
  have H1 := Lib.hid h1.shape
  have H2 := Lib.hid h2.shape
  clear hA hB
  have la : A.length ≤ n := by omega
  have lb : B.length ≤ n := by omega
  rcases hmax with ⟨hlt, hnn⟩ | ⟨hlt, hnn⟩
  all_goals
    have HNN := Lib.hid hnn; clear hnn
    go_enter Try.func28, Try.ntmps28
    go_wp2_with (first | (at_make; refine wpList_make_row rfl _ _ 41 rfl 3 i0 Try.underlying41 hi hz0 hz1 hz2 _ (n + 1) rfl rfl ?_ ?_ ?_; (have := HNN.out; omega); omega; intro w1 row1 b1 sz1) | (refine wpList_copy_splice rfl (.tmp 14) (.tmp 15) 41 41 rfl 3 Try.underlying41 info1 (some ⟨w.heap.size, 0, none⟩) a1 (n + 1) (n + 1) A.length c1 rfl rfl w.heap.size 0 ((List.replicate (n + 1) 0).map numI) 3 row1 (A.map numI) ?_ (fun h => ⟨rfl, src_cells h1 b1 h⟩) ?_ numI_one w.heap.size w b1 (Nat.le_refl _) ?_; (rw [List.length_map]; exact (Nat.min_eq_left (by omega)).symm); (simp; omega); intro w2 row2 b2))
    have row3 : Row w2 3 w.heap.size (A ++ List.replicate (n + 1 - A.length) 0) := by
      have := row2.out
      rw [splice_numI] at this
      exact this
    clear row1 row2
    go_loopw [19] (fun i wr => PlusRel w A B n w.heap.size i wr) (fun i _ => n + 1 - (intOf i).toNat)
    case atStart => exact ⟨0, _, by omega, rfl, adding_start HA.out la, row3, b2⟩
    case round =>
      clear row3 b1 sz1 b2
      obtain ⟨k, L, hk, rfl, had, hrow, hb⟩ := hrel
      by_cases hkn : k < n + 1
      · have hlen := had.len
        obtain ⟨x, hx⟩ : ∃ x, L.getD k 0 = x := ⟨_, rfl⟩
        obtain ⟨z, hz⟩ : ∃ z, L.getD (k + 1) 0 = z := ⟨_, rfl⟩
        have gx := hrow.cell k (by omega)
        have fx := hrow.free k
        have fz := hrow.free (k + 1)
        rw [hx] at gx
        have x9 : x ≤ 10000 := by rw [← hx]; exact had.here
        have z9 : z ≤ 9999 := by rw [← hz]; exact had.high (k + 1) (by omega)
        have HL := Lib.hid hlen
        clear hlen
        by_cases hkb : k < B.length
        · obtain ⟨b, off, rfl, hc⟩ : ∃ b off, a2 = some ⟨b, off, none⟩ ∧ ∀ j, j < B.length → w.cell? ⟨b, off + j, none⟩ = some (.int .i64 ((B.getD j 0 : Nat) : Int)) := by
            obtain ⟨a', c', e, hc⟩ := H2.out
            injection e with e1 _ _
            subst e1
            exact hc (by omega)
          obtain ⟨y, hy⟩ : ∃ y, B.getD k 0 = y := ⟨_, rfl⟩
          have gy0 := hc k hkb
          rw [hy] at gy0
          have by0 := World.block_lt_of_cell? w _ gy0
          have gy : wr.cell? ⟨b, off + k, none⟩ = some (.int .i64 (y : Int)) := by rw [hb.cell (p := ⟨b, off + k, none⟩) by0]; exact gy0
          have y9 : y ≤ 9999 := by rw [← hy]; exact small_getD HB.out k
          clear gy0 by0 hc
          by_cases hbig : 10000 ≤ x + y
          · obtain ⟨hkn2, hadd⟩ := plus_carry had HB.out lb hkn hkb hx hy hz hbig
            have gz := hrow.cell (k + 1) (by have := HL.out; omega)
            rw [hz] at gz
            have HAD := Lib.hid hadd
            clear hadd had hx hy hz
            go_wp2_with fail
            go_region
            go_wp2
            exact ⟨⟨k + 1, _, by omega, int_eq (by omega), HAD.out, ((hrow.set k (x + y) _ (by omega)).set k (x + y - 10000) _ (by omega)).set (k + 1) (z + 1) _ (by omega), (((hb.setCell (p := ⟨w.heap.size, k, none⟩) (Nat.le_refl _) _).setCell (p := ⟨w.heap.size, k, none⟩) (Nat.le_refl _) _).setCell (p := ⟨w.heap.size, k + 1, none⟩) (Nat.le_refl _) _).drew⟩, by simp only [intOf]; omega⟩
          · have hadd := plus_keep had HB.out lb hkn hkb hx hy (by omega)
            have HAD := Lib.hid hadd
            clear hadd had hx hy hz
            go_wp2_with fail
            go_region
            go_wp2
            exact ⟨⟨k + 1, _, by omega, int_eq (by omega), HAD.out, hrow.set k (x + y) _ (by omega), (hb.setCell (p := ⟨w.heap.size, k, none⟩) (Nat.le_refl _) _).drew⟩, by simp only [intOf]; omega⟩
        · by_cases hbig : 10000 ≤ x
          · obtain ⟨hkn2, hadd⟩ := bare_carry had HB.out lb hkn hkb hx hz hbig
            have gz := hrow.cell (k + 1) (by have := HL.out; omega)
            rw [hz] at gz
            have HAD := Lib.hid hadd
            clear hadd had hx hz
            go_wp2
            exact ⟨⟨k + 1, _, by omega, int_eq (by omega), HAD.out, (hrow.set k (x - 10000) _ (by omega)).set (k + 1) (z + 1) _ (by omega), (hb.setCell (p := ⟨w.heap.size, k, none⟩) (Nat.le_refl _) _).setCell (p := ⟨w.heap.size, k + 1, none⟩) (Nat.le_refl _) _⟩, by simp only [intOf]; omega⟩
          · have hadd := bare_keep had HB.out lb hkn hkb hx (by omega)
            have HAD := Lib.hid hadd
            clear hadd had hx hz
            go_wp2
            exact ⟨⟨k + 1, _, by omega, int_eq (by omega), HAD.out, hrow, hb⟩, by simp only [intOf]; omega⟩
      · obtain rfl : k = n + 1 := by omega
        obtain ⟨hsm, hval⟩ := adding_end had lb
        have hlen := had.len
        have ht := trim_any wr w.heap.size (n + 1) L hsm (by omega) (by omega) (fun j hj => hrow.cell j hj)
        rw [hlen] at ht
        have HT := Lib.hid ht
        have HV := Lib.hid hval
        have HL := Lib.hid hlen
        clear had hsm hval ht hlen
        go_wp2_with fail
        refine HT.out.mono ?_; rintro e w4 ⟨m, hm, rfl, nm, vm, rfl⟩
        have NM := Lib.hid nm; have VM := Lib.hid vm
        clear nm vm
        go_wp2
        go_ret
        exact ⟨_, L.take m, rfl, hrow.reads m _ hm, ⟨NM.out, VM.out.trans HV.out⟩, hb, Fits.mk (by have := HL.out; omega)⟩

theorem plus_any (w : World) (v1 v2 : Value) (A B : List Nat) (hA : Small A) (hB : Small B) (h1 : I64s w v1 A) (h2 : I64s w v2 B) (la : A.length ≤ 1000000) (lb : B.length ≤ 1000000) :
    Calls Try.prog 28 #[v1, v2] w (RetLong w fun R => Norm R ∧ val R = val A + val B) := by
  obtain ⟨a1, c1, rfl, _⟩ := h1.shape
  obtain ⟨a2, c2, rfl, _⟩ := h2.shape
  by_cases hlt : A.length < B.length
  · exact plus_in w a1 a2 c1 c2 B.length A B hA hB h1 h2 lb (.inl ⟨hlt, rfl⟩)
  · exact plus_in w a1 a2 c1 c2 A.length A B hA hB h1 h2 la (.inr ⟨by omega, rfl⟩)

end Go.Proofs.Ytfkbgejapmhppaa.Dig
