/- The document's own Same (allotmentref11): two rows of numbers compared: contract. -/
import Derived.Test.YtgaecgijmnkdgaaElems
namespace Go.Proofs.Ytgaecgijmnkdgaa
open Go.RowKit
set_option linter.unusedVariables false
set_option maxHeartbeats 1000000 in
theorem same11_any (w : World) {a b : Option Addr} {n m c d : Nat} {l k : List Int} (ha : Seq Elem.ints w (.slice a n c) l) (hb : Seq Elem.ints w (.slice b m d) k) (hn : n ≤ 9223372036854775807) (hm : m ≤ 9223372036854775807) :
    Calls Try.prog 17 #[.slice a n c, .slice b m d] w fun e w' => e = .returned (.bool (decide (l = k))) ∧ Below w.heap.size w w' := by
  have HA := Lib.hid ha; have HB := Lib.hid hb
  have hnl := ha.len
  have hml := hb.len
  have HNL := Lib.hid hnl; have HML := Lib.hid hml
  clear ha hb hnl hml
  by_cases hlen : n = m
  · subst hlen
    obtain ⟨y, hy⟩ : ∃ y, decide (l = k) = y := ⟨_, rfl⟩
    have HY := Lib.hid hy
    rw [hy]
    clear hy
    have t0 : ((n : Int) != (n : Int)) = false := by simp
    go_enter Try.func17, Try.ntmps17
    go_wp2
    go_loopw [13] (fun i wr => ∃ j : Nat, j ≤ n ∧ i = .int .i64 (j : Int) ∧ (∀ x, x < j → l.getD x 0 = k.getD x 0) ∧ Below w.heap.size w wr) (fun i _ => n - (intOf i).toNat)
    case atStart => exact ⟨0, Nat.zero_le _, rfl, fun x hx => by omega, Below.refl _ _⟩
    case round =>
      obtain ⟨j, hj, rfl, hsame, hb⟩ := hrel
      have SM := Lib.hid hsame; have B := Lib.hid hb
      have sr := hb.size
      clear hsame hb
      by_cases hjl : j < n
      · obtain ⟨x, hx⟩ : ∃ x, l[j]? = some x := ⟨l[j]'(by rw [← HNL.out]; exact hjl), List.getElem?_eq_getElem _⟩
        obtain ⟨z, hz⟩ : ∃ x, k[j]? = some x := ⟨k[j]'(by rw [← HML.out]; exact hjl), List.getElem?_eq_getElem _⟩
        obtain ⟨b2, off2, e1, hc1⟩ := (HA.out.below (Nat.le_refl _) B.out).elem hx
        obtain ⟨b3, off3, e2, hc2⟩ := (HB.out.below (Nat.le_refl _) B.out).elem hz
        subst e1 e2
        have d0 := hc1 0 (.int .i64 x) rfl
        have d1 := hc2 0 (.int .i64 z) rfl
        simp only [Elem.ints, Nat.add_zero, Nat.mul_one] at d0 d1
        have gx : l.getD j 0 = x := by rw [List.getD_eq_getElem?_getD, hx]; rfl
        have gz : k.getD j 0 = z := by rw [List.getD_eq_getElem?_getD, hz]; rfl
        have GX := Lib.hid gx; have GZ := Lib.hid gz
        have q2 : decide ((j : Int) < (n : Int)) = true := decide_eq_true (by omega)
        have q3 : (0 : Int) ≤ (j : Int) := by omega
        have q4 : (j : Int) < (n : Int) := by omega
        clear hc1 hc2 hx hz gx gz
        by_cases hxz : x = z
        · subst hxz
          have t1 : ((x : Int) != (x : Int)) = false := by simp
          go_wp2
          go_quiet (fail)
          go_wp2
          go_roundw
          case rel => exact ⟨j + 1, by omega, by go_num, fun i hi => by
            rcases Nat.lt_or_ge i j with h | h
            · exact SM.out i h
            · obtain rfl : i = j := by omega
              rw [GX.out, GZ.out], below_drewN B.out _⟩
          case measure => simp [intOf]; omega
        · have t1 : ((x : Int) != (z : Int)) = true := by rw [bne_iff_ne]; omega
          have hy : y = false := by
            rw [← HY.out, decide_eq_false_iff_not]
            rintro rfl
            exact hxz (GX.out.symm.trans GZ.out)
          subst hy
          go_wp2
          go_quiet (fail)
          go_wp2
          go_ret
          exact ⟨rfl, below_drewN B.out _⟩
      · have hjn : j = n := by omega
        have q2 : decide ((j : Int) < (n : Int)) = false := decide_eq_false (by omega)
        have hy : y = true := by
          rw [← HY.out, decide_eq_true_iff]
          refine List.ext_getElem? fun i => ?_
          rcases Nat.lt_or_ge i n with h | h
          · have := SM.out i (by omega)
            rw [List.getD_eq_getElem?_getD, List.getD_eq_getElem?_getD] at this
            have h1 : i < l.length := by have := HNL.out; omega
            have h2 : i < k.length := by have := HML.out; omega
            rw [List.getElem?_eq_getElem h1, List.getElem?_eq_getElem h2] at this ⊢
            simpa using this
          · rw [List.getElem?_eq_none (by have := HNL.out; omega), List.getElem?_eq_none (by have := HML.out; omega)]
        subst hy
        go_wp2
        go_ret
        exact ⟨rfl, B.out⟩
  · have t0 : ((n : Int) != (m : Int)) = true := by rw [bne_iff_ne]; omega
    have hy : decide (l = k) = false := by
      rw [decide_eq_false_iff_not]
      rintro rfl
      exact hlen (HNL.out.trans HML.out.symm)
    rw [hy]
    clear hy hlen
    go_enter Try.func17, Try.ntmps17
    go_wp2
    go_ret
    exact ⟨rfl, Below.refl _ _⟩
end Go.Proofs.Ytgaecgijmnkdgaa
