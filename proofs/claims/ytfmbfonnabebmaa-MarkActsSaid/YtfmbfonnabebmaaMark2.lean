/- Marks (layer 3): Has: its contract. -/
import Derived.Test.YtfmbfonnabebmaaMark1
import Derived.Test.YtfmbfonnabebmaaInts
namespace Go.Proofs.Ytfmbfonnabebmaa
open Go.RowKit
set_option linter.unusedVariables false

def hasAt (L : List Bool) (x : Int) : Bool := decide (0 ≤ x) && L.getD x.toNat false
def hasAll (L : List Bool) (l : List Int) : Bool := l.all (hasAt L)
theorem hasAt_nat (L : List Bool) (j : Nat) : hasAt L (j : Int) = L.getD j false := by simp [hasAt]
theorem hasAt_neg {L : List Bool} {x : Int} (h : x < 0) : hasAt L x = false := by simp [hasAt]; omega
theorem hasAt_out {L : List Bool} {j : Nat} (h : L.length ≤ j) : hasAt L (j : Int) = false := by rw [hasAt_nat, MarkMath.getD_out h]
theorem hasAll_no {L : List Bool} {l : List Int} {j : Nat} (hj : j < l.length) (h : hasAt L (l.getD j 0) = false) : hasAll L l = false := by
  unfold hasAll
  rw [List.all_eq_false]
  refine ⟨l.getD j 0, ?_, by rw [h]; decide⟩
  rw [List.getD_eq_getElem?_getD, List.getElem?_eq_getElem hj]
  exact List.getElem_mem hj
theorem hasAll_yes {L : List Bool} {l : List Int} (h : ∀ j, j < l.length → hasAt L (l.getD j 0) = true) : hasAll L l = true := by
  unfold hasAll
  rw [List.all_eq_true]
  intro x hx
  obtain ⟨j, hj, rfl⟩ := List.mem_iff_getElem.1 hx
  have := h j hj
  rwa [List.getD_eq_getElem?_getD, List.getElem?_eq_getElem hj] at this
def HasRel (L : List Bool) (l : List Int) (i : Value) : Prop := ∃ j : Nat, j ≤ l.length ∧ i = .int .i64 (j : Int) ∧ ∀ x, x < j → hasAt L (l.getD x 0) = true
theorem has_cells {w : World} {p o g : Nat} {L : List Bool} (h : IsMarks w p o g L) (b off cap : Nat) (l : List Int) (hc : ∀ j, j < l.length → w.cell? ⟨b, off + j, none⟩ = some (.int .i64 (l.getD j 0))) (hl : l.length ≤ 9223372036854775807) (r : Bool) (hr : hasAll L l = r) :
    Calls Try.prog 23 #[.pointer (some ⟨p, o, none⟩), .slice (some ⟨b, off, none⟩) l.length cap] w fun e w' => e = .returned (.bool r) ∧ w = w' := by
  have hb := h.big
  have hd := h.head
  have H := Lib.hid h; have HC := Lib.hid hc; have HR := Lib.hid hr
  clear h hc hr
  go_enter Try.func23, Try.ntmps23
  go_wp2
  go_loop [11] (fun i => HasRel L l i) (fun i => l.length - (intOf i).toNat)
  case atStart => exact ⟨0, Nat.zero_le _, rfl, fun x hx => by omega⟩
  case round =>
    obtain ⟨j, hj, rfl, hf⟩ := hrel
    have HF := Lib.hid hf; clear hf
    by_cases hlt : j < l.length
    · have hcell := HC.out j hlt
      obtain ⟨x, hx⟩ : ∃ x, l.getD j 0 = x := ⟨_, rfl⟩
      rw [hx] at hcell
      have HX := Lib.hid hx; clear hx
      by_cases h0 : x < 0
      · go_wp2
        go_ret
        exact ⟨by rw [← HR.out, hasAll_no hlt (by rw [HX.out]; exact hasAt_neg h0)]; rfl, rfl⟩
      · obtain ⟨y, rfl⟩ := Int.eq_ofNat_of_zero_le (show 0 ≤ x by omega)
        clear h0
        by_cases h1 : L.length ≤ y
        · go_wp2
          go_ret
          exact ⟨by rw [← HR.out, hasAll_no hlt (by rw [HX.out]; exact hasAt_out h1)]; rfl, rfl⟩
        · have h1' : y < L.length := by omega
          clear h1
          have hy := H.out.row.cell y h1'
          obtain ⟨c, hcd⟩ : ∃ c, L.getD y false = c := ⟨_, rfl⟩
          rw [hcd] at hy
          have HY := Lib.hid hcd; clear hcd
          cases c with
          | false =>
            go_wp2
            go_ret
            exact ⟨by rw [← HR.out, hasAll_no hlt (by rw [HX.out, hasAt_nat]; exact HY.out)]; rfl, rfl⟩
          | true =>
            go_wp2
            go_round
            case rel =>
              refine ⟨j + 1, by omega, by go_num, fun x hx => ?_⟩
              rcases Nat.lt_or_ge x j with h2 | h2
              · exact HF.out x h2
              · obtain rfl : x = j := by omega
                rw [HX.out, hasAt_nat]; exact HY.out
            case measure => simp [intOf]; omega
    · obtain rfl : j = l.length := by omega
      go_wp2
      go_ret
      exact ⟨by rw [← HR.out, hasAll_yes HF.out]; rfl, rfl⟩
theorem has_none {w : World} {p o : Nat} (a : Option Addr) (cap : Nat) :
    Calls Try.prog 23 #[.pointer (some ⟨p, o, none⟩), .slice a 0 cap] w fun e w' => e = .returned (.bool true) ∧ w = w' := by
  go_enter Try.func23, Try.ntmps23
  go_wp2
  go_loop [11] (fun i => i = .int .i64 0) (fun i => 0)
  case atStart => exact rfl
  case round =>
    subst hrel
    go_wp2
    go_ret
    exact ⟨rfl, rfl⟩
theorem has_any {w : World} {p o g : Nat} {L : List Bool} (h : IsMarks w p o g L) (a : Option Addr) (n cap : Nat) (l : List Int) (hl : Ints w (.slice a n cap) l) (hm : l.length ≤ 9223372036854775807) (r : Bool) (hr : hasAll L l = r) :
    Calls Try.prog 23 #[.pointer (some ⟨p, o, none⟩), .slice a n cap] w fun e w' => e = .returned (.bool r) ∧ w = w' := by
  obtain rfl := hl.len
  rcases hl with ⟨b, off, c, e, hc⟩ | ⟨rfl, a', c, e, _⟩
  · injection e with e1 _ e3
    subst e1 e3
    exact has_cells h b off cap l hc hm r hr
  · subst hr
    exact has_none a cap
end Go.Proofs.Ytfmbfonnabebmaa
