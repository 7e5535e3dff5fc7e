/- The document's At (allotmentref11) over a row of ints; a new row of one. -/
import Derived.Test.YtgaecgijmnkdgaaStackC
namespace Go.Proofs.Ytgaecgijmnkdgaa
open Go.RowKit StackMath
set_option linter.unusedVariables false
theorem Vec.one13 (w : World) (t : TypeId) (x : Int) : Vec Elem.ints (w.alloc (.cells #[.int .i64 x] t)) (.slice (some ⟨w.heap.size, 0, none⟩) 1 1) [x] :=
  Vec.row (Blk.new w t #[.int .i64 x]) [x] 1 (Nat.le_refl _) (by decide) (Nat.le_refl _) rfl
set_option maxHeartbeats 1000000 in
theorem at13_any (w : World) {a : Option Addr} {n c : Nat} {l : List Int} (h : Seq Elem.ints w (.slice a n c) l) {x : Int} (h1 : n ≤ c) (h2 : n ≤ 9223372036854775807) :
    Calls Try.prog 21 #[.slice a n c, .int .i64 x] w fun e w' => ∃ k : Int, e = .returned (.int .i64 k) ∧ decide (k < 0) = decide (x ∉ l) ∧ w' = w := by
  have hn := h.len
  have HN := Lib.hid hn.symm; have H := Lib.hid h
  have I0 := Lib.hid (show IdxR l x w (.int .i64 0) w from ⟨0, Nat.zero_le _, rfl, by simp, rfl⟩)
  clear h hn
  go_enter Try.func21, Try.ntmps21
  go_wp2
  go_loopw [9] (fun i wr => IdxR l x w i wr) (fun i _ => n - (intOf i).toNat)
  case atStart => exact I0.out
  case round =>
    clear I0
    obtain ⟨t, ht, rfl, hno, rfl⟩ := hrel
    rw [HN.out] at ht
    have NO := Lib.hid hno
    by_cases htn : t < n
    · obtain ⟨b3, off3, y, ea, hy, hym, d0⟩ := Vec.at13 H.out (t := t) (by rw [HN.out]; exact htn)
      subst ea
      have HY := Lib.hid hy; have HM := Lib.hid hym
      have t2 : decide ((t : Int) < (n : Int)) = true := decide_eq_true (by omega)
      have t2' : decide (t < n) = true := decide_eq_true htn
      have q3 : (0 : Int) ≤ (t : Int) := by omega
      have q4 : (t : Int) < (n : Int) := by omega
      clear hno hy hym
      by_cases hxy : x = y
      · subst hxy
        have t3 : ((x : Int) == x) = true := by simp
        go_wp2
        go_ret
        refine ⟨_, rfl, ?_, rfl⟩
        have e1 : decide (x ∉ l) = false := decide_eq_false fun h => h HM.out
        rw [e1]; exact decide_eq_false (by omega)
      · have t3 : ((x : Int) == y) = false := by rw [beq_eq_false_iff_ne]; exact hxy
        have HXY := Lib.hid hxy
        clear hxy
        go_wp2
        go_roundw
        case rel => exact ⟨t + 1, by rw [HN.out]; omega, by go_num, take_next13 NO.out HY.out HXY.out, rfl⟩
        case measure => simp [intOf]; omega
    · obtain rfl : t = n := by omega
      have t2 : decide ((t : Int) < (t : Int)) = false := decide_eq_false (by omega)
      clear hno
      have hni : x ∉ l := fun hm => NO.out x (by rw [← HN.out, List.take_length]; exact hm) rfl
      have HNI := Lib.hid hni
      clear hni
      go_wp2
      go_ret
      exact ⟨_, rfl, by rw [decide_eq_true HNI.out]; rfl, rfl⟩
end Go.Proofs.Ytgaecgijmnkdgaa
