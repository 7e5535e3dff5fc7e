/- The document's answers for layer 1: times: a contract. -/
import Derived.Test.YtfkbgejapmhppaaRef1
import Derived.RegionTactic
import Derived.ChangeAlike
import Derived.BigRegion
import Derived.Deep.LoopGhost
namespace Go.Proofs.Ytfkbgejapmhppaa.Dig
open Go.RowKit

/-- One step's stores, the places' own numbers at hand. -/
theorem stepped_eq {L : List Nat} {p x z ab : Nat} (hx : L.getD p 0 = x) (hz : L.getD (p + 1) 0 = z) :
    ((L.set p (x + ab)).set (p + 1) (z + (x + ab) / 10000)).set p ((x + ab) % 10000) = Stepped L p ab := by unfold Stepped; rw [hx, hz]

def OutRel (w : World) (A B : List Nat) (g : Nat) (i : Value) (wr : World) : Prop := ∃ (k : Nat) (L : List Nat), k ≤ A.length ∧ i = .int .i64 k ∧ Rows A B L k ∧ Row wr 3 g L ∧ Below w.heap.size w wr
def InRel (w : World) (A B : List Nat) (g i : Nat) (j : Value) (wr : World) : Prop := ∃ (k : Nat) (L : List Nat), k ≤ B.length ∧ j = .int .i64 k ∧ Rowing A B L i k ∧ Row wr 3 g L ∧ Below w.heap.size w wr

def SameRel (w : World) (n g : Nat) (L : List Nat) (i : Value) (wr : World) : Prop := ∃ k : Nat, k + 1 ≤ n ∧ i = .int .i64 k ∧ Row wr 3 g L ∧ Below w.heap.size w wr

set_option maxRecDepth 100000 in
set_option maxHeartbeats 1000000 in
theorem times_in (w : World) (a1 a2 : Option Addr) (c1 c2 : Nat) (A B : List Nat) (hA : Small A) (hB : Small B) (la : A.length ≤ 1000000) (lb : B.length ≤ 1000000)
    (hc1 : 0 < A.length → ∃ b off, a1 = some ⟨b, off, none⟩ ∧ ∀ j, j < A.length → w.cell? ⟨b, off + j, none⟩ = some (.int .i64 ((A.getD j 0 : Nat) : Int)))
    (hc2 : 0 < B.length → ∃ b off, a2 = some ⟨b, off, none⟩ ∧ ∀ j, j < B.length → w.cell? ⟨b, off + j, none⟩ = some (.int .i64 ((B.getD j 0 : Nat) : Int))) :
    Calls Try.prog 32 #[.slice a1 A.length c1, .slice a2 B.length c2] w (RetLong w fun R => Norm R ∧ val R = val A * val B) := by
  obtain ⟨i0, hi, hz0, hz1, hz2⟩ := info_parts infoI
  have HA := Lib.hid hA; have HB := Lib.hid hB
  have C1 := Lib.hid hc1; have C2 := Lib.hid hc2
  clear hA hB hc1 hc2
  go_enter Try.func32, Try.ntmps32
  go_wp2_with (at_make; refine wpList_make_row rfl _ _ 41 rfl 3 i0 Try.underlying41 hi hz0 hz1 hz2 _ (A.length + B.length + 1) rfl rfl ?_ ?_ ?_; omega; omega; intro w1 row1 bw1 sz1)
  go_loopw [18] (fun i wr => OutRel w A B w.heap.size i wr) (fun i _ => A.length - (intOf i).toNat)
  case atStart => exact ⟨0, _, by omega, rfl, rows_start A B, row1, bw1⟩
  case round =>
    clear row1 bw1 sz1
    obtain ⟨i, L0, hki, rfl, hrows, hrow0, hb0⟩ := hrel
    by_cases hin : i < A.length
    · obtain ⟨wo, rfl⟩ : ∃ wo : World, wo = wr := ⟨_, rfl⟩
      obtain ⟨b1, o1, rfl, hc1⟩ := C1.out (by omega)
      have hcell0 := hc1 i hin
      clear hc1
      obtain ⟨x, hx⟩ : ∃ x, A.getD i 0 = x := ⟨_, rfl⟩
      rw [hx] at hcell0
      have bx := World.block_lt_of_cell? w _ hcell0
      have x9 : x ≤ 9999 := by rw [← hx]; exact small_getD HA.out i
      have HX := Lib.hid hx; clear hx
      have G0 := Lib.hid hcell0; clear hcell0
      go_wp2
      go_loopw [23] (fun j wr => InRel w A B w.heap.size i j wr) (fun j _ => B.length - (intOf j).toNat)
      case atStart => exact ⟨0, L0, by omega, rfl, rows_in hrows, hrow0, hb0⟩
      case round =>
        clear hrows hrow0 hb0
        obtain ⟨k, L, hkk, rfl, hrow, hr, hb⟩ := hrel
        by_cases hk : k < B.length
        · obtain ⟨b2, o2, rfl, hc2⟩ := C2.out (by omega)
          have hcell1 := hc2 k hk
          clear hc2
          obtain ⟨y, hy⟩ : ∃ y, B.getD k 0 = y := ⟨_, rfl⟩
          rw [hy] at hcell1
          have b_y := World.block_lt_of_cell? w _ hcell1
          have y9 : y ≤ 9999 := by rw [← hy]; exact small_getD HB.out k
          have gx : wr.cell? ⟨b1, o1 + i, none⟩ = some (.int .i64 (x : Int)) := by rw [hb.cell (p := ⟨b1, o1 + i, none⟩) bx]; exact G0.out
          have gy : wr.cell? ⟨b2, o2 + k, none⟩ = some (.int .i64 (y : Int)) := by rw [hb.cell (p := ⟨b2, o2 + k, none⟩) b_y]; exact hcell1
          obtain ⟨q, hq⟩ : ∃ q, L.getD (i + k) 0 = q := ⟨_, rfl⟩
          obtain ⟨z, hz⟩ : ∃ z, L.getD (i + k + 1) 0 = z := ⟨_, rfl⟩
          have hlen := hrow.len
          have gq := hr.cell (i + k) (by omega)
          have gz := hr.cell (i + k + 1) (by omega)
          rw [hq] at gq; rw [hz] at gz
          have fq := hr.free (i + k)
          have fz := hr.free (i + k + 1)
          have q9 : q ≤ 19998 := by rw [← hq]; exact hrow.hot
          have z9 : z ≤ 9999 := by rw [← hz]; exact hrow.others (i + k + 1) (by omega)
          obtain ⟨m, hm⟩ : ∃ m, x * y = m := ⟨_, rfl⟩
          have m9 : m ≤ 99980001 := by rw [← hm]; exact Nat.mul_le_mul x9 y9
          have hprod : (x : Int) * (y : Int) = (m : Int) := by rw [← hm]; push_cast; rfl
          have hnext := rowing_next hrow HA.out HB.out hin hk
          rw [HX.out, hy, hm, ← stepped_eq hq hz] at hnext
          have HN := Lib.hid hnext
          have HL := Lib.hid hlen
          clear hnext hlen hcell1 hrow hq hz hm hy
          go_wp2_with fail
          go_region
          go_wp2_with fail
          go_region
          go_wp2
          exact ⟨⟨k + 1, _, by omega, int_eq (by omega), HN.out, ((hr.set (i + k) (q + m) _ (by omega)).set (i + k + 1) (z + (q + m) / 10000) _ (by omega)).set (i + k) ((q + m) % 10000) _ (by omega), (((hb.setCell (p := ⟨w.heap.size, i + k, none⟩) (Nat.le_refl _) _).setCell (p := ⟨w.heap.size, i + k + 1, none⟩) (Nat.le_refl _) _).setCell (p := ⟨w.heap.size, i + k, none⟩) (Nat.le_refl _) _).drew.drew⟩, by simp only [intOf]; omega⟩
        · obtain rfl : k = B.length := by omega
          have hout := rows_out hrow hin
          have HO := Lib.hid hout
          clear hout hrow
          go_wp2
          exact ⟨⟨i + 1, L, by omega, int_eq (by omega), HO.out, hr, hb⟩, by simp only [intOf]; omega⟩
    · obtain rfl : i = A.length := by omega
      obtain ⟨hsm, hval⟩ := rows_end hrows
      have hlen := hrows.len
      have ht := trim_any wr w.heap.size (A.length + B.length + 1) L0 hsm (by omega) (by omega) (fun j hj => hrow0.cell j hj)
      rw [hlen] at ht
      have HT := Lib.hid ht
      have HV := Lib.hid hval
      have HL := Lib.hid hlen
      have HSM := Lib.hid hsm
      have HSL := Lib.hid (small_of (l := L0) (fun j _ => small_getD hsm j))
      clear hrows ht hlen hsm hval
      have HS := Lib.hid (fun (wz : World) (hz : Row wz 3 w.heap.size L0) => by
        have t := trim_any wz w.heap.size (A.length + B.length + 1) L0 HSM.out (by have := HL.out; omega) (by omega) (fun j hj => hz.cell j hj)
        rw [HL.out] at t; exact t)
      clear HT
      go_wp2
      go_loopw [8] (fun i wr => SameRel w (A.length + B.length + 1) w.heap.size L0 i wr) (fun i _ => A.length + B.length + 1 - (intOf i).toNat)
      case atStart => exact ⟨0, by omega, rfl, hrow0, hb0⟩
      case round =>
        clear hrow0 hb0
        obtain ⟨k, hkk, rfl, hr, hb⟩ := hrel
        by_cases hk : k + 1 < A.length + B.length + 1
        · obtain ⟨d, hd⟩ : ∃ d, L0.getD k 0 = d := ⟨_, rfl⟩
          obtain ⟨z, hz⟩ : ∃ z, L0.getD (k + 1) 0 = z := ⟨_, rfl⟩
          have gd := hr.cell k (by have := HL.out; omega)
          have gz := hr.cell (k + 1) (by have := HL.out; omega)
          rw [hd] at gd; rw [hz] at gz
          have fd := hr.free k
          have fz := hr.free (k + 1)
          have d9 : d ≤ 9999 := by rw [← hd]; exact small_getD HSM.out k
          have z9 : z ≤ 9999 := by rw [← hz]; exact small_getD HSM.out (k + 1)
          have s1 : (L0.set (k + 1) z).set k d = L0 := by rw [set_same L0 (k + 1) z hz, set_same L0 k d hd]
          have S1 := Lib.hid s1
          clear s1 hd hz
          go_wp2_with fail
          go_region
          go_wp2
          exact ⟨⟨k + 1, by omega, int_eq (by omega), by have h := (hr.set (k + 1) z ((z : Int) + (d : Int) / 10000) (by omega)).set k d ((d : Int) % 10000) (by omega); rw [S1.out] at h; exact h, ((hb.setCell (p := ⟨w.heap.size, k + 1, none⟩) (Nat.le_refl _) _).setCell (p := ⟨w.heap.size, k, none⟩) (Nat.le_refl _) _).drew⟩, by simp only [intOf]; omega⟩
        · go_wp2_with fail
          refine (HS.out _ hr).mono ?_; rintro e w4 ⟨m, hm, rfl, nm, vm, rfl⟩
          have NM := Lib.hid nm; have VM := Lib.hid vm
          clear nm vm
          go_wp2
          go_ret
          exact ⟨_, L0.take m, rfl, hr.reads m _ hm, ⟨NM.out, VM.out.trans HV.out⟩, hb, Fits.mk (by have := HL.out; omega)⟩

theorem times_any (w : World) (v1 v2 : Value) (A B : List Nat) (hA : Small A) (hB : Small B) (h1 : I64s w v1 A) (h2 : I64s w v2 B) (la : A.length ≤ 1000000) (lb : B.length ≤ 1000000) :
    Calls Try.prog 32 #[v1, v2] w (RetLong w fun R => Norm R ∧ val R = val A * val B) := by
  obtain ⟨a1, c1, rfl, k1⟩ := h1.shape
  obtain ⟨a2, c2, rfl, k2⟩ := h2.shape
  exact times_in w a1 a2 c1 c2 A B hA hB la lb k1 k2

end Go.Proofs.Ytfkbgejapmhppaa.Dig
