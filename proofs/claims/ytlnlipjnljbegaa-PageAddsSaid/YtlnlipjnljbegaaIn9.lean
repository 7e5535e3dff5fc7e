/- The laws' 'in' of layer 9; which numbers a map of bools has. -/
import Derived.Test.YtlnlipjnljbegaaFillUp9
import Derived.Test.YtlnlipjnljbegaaBoolMap
import Derived.Maps.OwnOps
import Derived.Maps.OwnSet
import Derived.Maps.Views
import Derived.Maps.Keyed
namespace Go.Proofs.Ytlnlipjnljbegaa
open Go.RowKit Go.Maps ListMath PageMath GeoMath
set_option linter.unusedVariables false

def InRel (w : World) (l : List Nat) (x n : Nat) (i : Value) (wr : World) : Prop := ∃ j : Nat, j ≤ n ∧ i = .int .i64 (j : Int) ∧ x ∉ l.take j ∧ wr = w
set_option maxHeartbeats 1000000 in
theorem in_any (w : World) {a : Option Addr} {n cap : Nat} {l : List Nat} (h : Seq Elem.u64s w (.slice a n cap) l) (hn : n ≤ 9223372036854775807) (x : Nat) (hx : x ≤ 18446744073709551615) :
    Calls Try.prog 17 #[.slice a n cap, .int .u64 (x : Int)] w fun e w' => e = .returned (.bool (decide (x ∈ l))) ∧ w = w' := by
  have hlen := h.len
  have H := Lib.hid h; have HN := Lib.hid hlen
  clear h hlen
  obtain ⟨y, hy⟩ : ∃ y, decide (x ∈ l) = y := ⟨_, rfl⟩
  rw [hy]
  have HY := Lib.hid hy
  clear hy
  go_enter Try.func17, Try.ntmps17
  go_wp2
  go_loopw [9] (fun i wr => InRel w l x n i wr) (fun i _ => n - (intOf i).toNat)
  case atStart => exact ⟨0, Nat.zero_le _, rfl, by simp, rfl⟩
  case round =>
    obtain ⟨j, hj, rfl, hnot, rfl⟩ := hrel
    have NT := Lib.hid hnot
    clear hnot
    by_cases hjn : j < n
    · obtain ⟨z, hz⟩ : ∃ z, l[j]? = some z := ⟨l[j]'(by rw [← HN.out]; exact hjn), List.getElem?_eq_getElem _⟩
      obtain ⟨b, off, rfl, hc⟩ := H.out.elem hz
      have d0 := hc 0 (.int .u64 (z : Int)) rfl
      simp only [Elem.u64s, Nat.add_zero, Nat.mul_one] at d0
      have t1 : decide ((j : Int) < (n : Int)) = true := decide_eq_true (by omega)
      have j0 : (0 : Int) ≤ (j : Int) := by omega
      have j1 : (j : Int) < (n : Int) := by omega
      have HZ := Lib.hid hz
      clear hc hz
      by_cases hxz : x = z
      · subst hxz
        have t2 : ((x : Int) == (x : Int)) = true := by simp
        have hy : y = true := by rw [← HY.out, decide_eq_true_iff]; exact List.mem_of_getElem? HZ.out
        subst hy
        go_wp2
        go_ret
        exact ⟨rfl, rfl⟩
      · have t2 : ((x : Int) == (z : Int)) = false := by rw [beq_eq_false_iff_ne]; omega
        have hnx : x ∉ l.take (j + 1) := by
          rw [List.take_add_one, HZ.out]
          intro h
          rcases List.mem_append.1 h with h | h
          · exact NT.out h
          · simp at h; exact hxz h
        have NX := Lib.hid hnx
        clear hnx hxz
        go_wp2
        exact ⟨⟨j + 1, by omega, by go_num, NX.out, rfl⟩, by simp [intOf]; omega⟩
    · have hjn' : j = n := by omega
      have t1 : decide ((j : Int) < (n : Int)) = false := decide_eq_false (by omega)
      have hy : y = false := by
        rw [← HY.out, decide_eq_false_iff_not]
        have h1 := NT.out
        rwa [hjn', HN.out, List.take_length] at h1
      subst hy
      clear hjn'
      go_wp2
      go_ret
      exact ⟨rfl, rfl⟩
theorem keyU : Keyed Try.prog 22 := int_keyed Try.underlying22
theorem zeroBool (w : World) : (zeroValue 4).run Try.prog w = .ok (.bool false) w := by kernel_rfl
/-- The map says true of just these. -/
def MetU (D : DataW Unit) (acc : List Nat) : Prop := ∀ x : Nat, D.atKey (.int .u64 (x : Int)) (.lit (.bool false)) = .lit (.bool (acc.contains x))
theorem metU_nil : MetU (.map []) [] := fun x => rfl
theorem MetU.put {D : DataW Unit} {acc : List Nat} (h : MetU D acc) (hD : IsMap D) (x : Nat) : MetU (D.put (.int .u64 (x : Int)) (.lit (.bool true))) (acc ++ [x]) := by
  intro y
  by_cases hy : y = x
  · subst hy
    rw [atKey_put_same hD (by trivial)]
    simp
  · rw [atKey_put_other (by intro e; injection e with _ e; omega), h y]
    simp [hy]
end Go.Proofs.Ytlnlipjnljbegaa
