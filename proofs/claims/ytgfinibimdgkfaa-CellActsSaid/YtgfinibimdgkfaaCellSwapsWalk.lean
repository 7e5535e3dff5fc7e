/- The law CellSwaps, walked. -/
import Derived.Test.YtgfinibimdgkfaaAlive8
import Derived.Test.YtgfinibimdgkfaaBytesIn
namespace Go.Proofs.Ytgfinibimdgkfaa
open Go.RowKit
set_option linter.unusedVariables false
theorem u64_bd2 {n : Int} (h : (Lit.int .u64 n).wf = true) : n = ((n.toNat : Nat) : Int) ∧ n.toNat ≤ 18446744073709551615 := by
  simp [Lit.wf, IntKind.min, IntKind.max, IntKind.signed, IntKind.bits] at h; omega
/-- Numbers that came in, at every world that is as w is in w's blocks. -/
theorem NumsAt.u64In {w : World} {a : Option Addr} {nn cap : Nat} {l : List Int} (h : NumsAt w .u64 (.slice a nn cap) l) : ∃ L : List Nat, nn = L.length ∧ nn ≤ cap ∧ cap ≤ 9223372036854775807 ∧ (∀ j, j < nn → L.getD j 0 ≤ 18446744073709551615) ∧ ∀ w', Below w.heap.size w w' → ∀ j, j < nn → ∃ b off, a = some ⟨b, off, none⟩ ∧ w'.cell? ⟨b, off + j, none⟩ = some (.int .u64 ((L.getD j 0 : Nat) : Int)) := by
  obtain ⟨a', cap', e, h1, h2, _, h4, h5⟩ := h
  injection e with e1 e2 e3
  subst e1 e2 e3
  have hget : ∀ j, j < l.length → ((l.map Int.toNat).getD j 0 ≤ 18446744073709551615 ∧ l.getD j 0 = (((l.map Int.toNat).getD j 0 : Nat) : Int)) := by
    intro j hj
    have := u64_bd2 (h5 _ (List.getElem_mem hj))
    have e1 : l.getD j 0 = l[j]'hj := by simp [List.getD_eq_getElem?_getD, hj]
    have e2 : (l.map Int.toNat).getD j 0 = (l[j]'hj).toNat := by simp [List.getD_eq_getElem?_getD, hj]
    rw [e1, e2]; exact ⟨this.2, this.1⟩
  refine ⟨l.map Int.toNat, by simp, h1, h2, fun j hj => (hget j hj).1, fun w' hb j hj => ?_⟩
  obtain ⟨b, off, e, hc⟩ := h4 j hj
  refine ⟨b, off, e, ?_⟩
  rw [← (hget j hj).2]
  exact cell_later hc (Nat.le_refl _) hb
end Go.Proofs.Ytgfinibimdgkfaa
namespace Go.Proofs.Ytgfinibimdgkfaa.cellSwaps
open Go.RowKit
set_option linter.unusedVariables false
def Swapping (w : World) (b nn : Nat) (L : List Nat) (v i : Value) (wr : World) : Prop :=
  ∃ (j x : Nat), j ≤ nn ∧ i = .int .i64 (j : Int) ∧ v = .int .u64 (x : Int) ∧ OC w b x j (2 * (j : Int)) wr
set_option maxHeartbeats 2000000 in
theorem walk_of (w : World) (C : Ce w) {a : Option Addr} {nn cap : Nat} (l : List Int) (h : NumsAt w .u64 (.slice a nn cap) l) :
    Calls Try.prog 7 #[.slice a nn cap] w fun e w' => e = .returned (.bool true) ∧ Below w.heap.size w w' := by
  obtain ⟨L, hn, hnc, hcm, hle, hcell⟩ := h.u64In
  have HLE := Lib.hid hle; have HC := Lib.hid hcell
  clear h hn hle hcell
  by_cases hbig : 300 < nn
  · have t0 : decide ((300 : Int) < (nn : Int)) = true := decide_eq_true (by omega)
    have t0' : decide (300 < nn) = true := decide_eq_true hbig
    go_enter Try.func7, Try.ntmps7
    go_wp2_with fail
    refine (alive_any _ C).mono ?_; rintro e w1 ⟨rfl, hb⟩
    have B1 := Lib.hid hb
    clear hb
    go_wp2
    go_ret
    exact ⟨rfl, B1.out⟩
  · have t0 : decide ((300 : Int) < (nn : Int)) = false := decide_eq_false (by omega)
    have t0' : decide (300 < nn) = false := decide_eq_false hbig
    go_enter Try.func7, Try.ntmps7
    go_wp2_with fail
    refine (alive_any _ C).mono ?_; rintro e w1 ⟨rfl, hb⟩
    obtain ⟨b, hbb⟩ : ∃ b, w1.heap.size = b := ⟨_, rfl⟩
    have O0 := Lib.hid (OC.new 26 hb hbb)
    clear hb
    go_wp2
    clear hbb t0 t0'
    go_loopw [4, 16] (fun v i wr => Swapping w b nn L v i wr) (fun v i _ => nn - (intOf i).toNat)
    case atStart => exact ⟨0, 0, Nat.zero_le _, rfl, rfl, O0.out⟩
    case round =>
      obtain ⟨j, x, hj, rfl, rfl, ho⟩ := hrel
      have O := Lib.hid ho
      have hbl := ho.below
      clear ho
      by_cases hjl : j < nn
      · obtain ⟨b2, off2, rfl, d0⟩ := HC.out wr hbl j hjl
        have hy := HLE.out j hjl
        obtain ⟨y, hy'⟩ : ∃ y, L.getD j 0 = y := ⟨_, rfl⟩
        rw [hy'] at d0 hy
        have SW := Lib.hid (fun w' (h : OC w b x j (2 * (j : Int)) w') => oc_swap C ⟨by omega, by omega⟩ (by show j ≤ _; omega) hy w' h)
        have LD := Lib.hid (fun w' (h : OC w b y (j + 1) (2 * (j : Int) + 1) w') => oc_load C ⟨by omega, by omega⟩ w' h)
        obtain ⟨j1, hj1⟩ : ∃ k, j + 1 = k := ⟨_, rfl⟩
        rw [hj1] at SW LD
        have e1 : (j : Int) + 1 = (j1 : Int) := by omega
        have hj1n : j1 ≤ nn := by omega
        have HJ1 := Lib.hid hj1
        have w9 : IntKind.u64.wrap (j1 : Int) = (j1 : Int) := u64_in _ ⟨by omega, by omega⟩
        have q2 : decide ((j : Int) < (nn : Int)) = true := decide_eq_true (by omega)
        have q2' : decide (j < nn) = true := decide_eq_true hjl
        have q3 : (0 : Int) ≤ (j : Int) := by omega
        have q4 : (j : Int) < (nn : Int) := by omega
        have tx : ((x : Int) != (x : Int)) = false := by simp
        have ty : ((y : Int) != (y : Int)) = false := by simp
        have tj : ((j1 : Int) != (j1 : Int)) = false := by simp
        have E2 := Lib.hid (show 2 * (j : Int) + 1 + 1 = 2 * (j1 : Int) by omega)
        clear hy' hj1 hbl
        go_wp2_with fail
        refine (SW.out _ O.out).mono ?_; rintro e w5 ⟨rfl, h5⟩
        have O5 := Lib.hid h5
        clear h5 d0
        go_wp2_with fail
        refine (LD.out _ O5.out).mono ?_; rintro e w6 ⟨rfl, h6⟩
        rw [E2.out] at h6
        have O6 := Lib.hid h6
        clear h6
        go_wp2
        go_roundw
        case rel => exact ⟨j1, y, hj1n, by rw [← HJ1.out], rfl, O6.out⟩
        case measure => simp [intOf]; omega
      · obtain rfl : j = nn := by omega
        have q2 : decide ((j : Int) < (j : Int)) = false := decide_eq_false (by omega)
        have AS := Lib.hid (fun w' (h : OC w b x j (2 * (j : Int)) w') => oc_asked C ⟨by omega, by omega⟩ w' h)
        have tq : ((2 * (j : Int) : Int) == 2 * (j : Int)) = true := by simp
        clear hbl
        go_wp2_with fail
        refine (AS.out _ (O.out.grew ((Below.refl _ _).alloc (Nat.le_refl _) _)) _ _ _ _ (Or.inl rfl) (ptr_oneAt wr _ _ _ rfl) (by decide) (by decide)).mono ?_; rintro e w6 ⟨rfl, h6⟩
        have O6 := Lib.hid h6
        clear h6
        go_wp2
        go_ret
        exact ⟨by simp, O6.out.below⟩
end Go.Proofs.Ytgfinibimdgkfaa.cellSwaps
