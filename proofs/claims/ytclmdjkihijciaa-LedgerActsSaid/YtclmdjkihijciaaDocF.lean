/- The document's ledger: May. -/
import Derived.Test.YtclmdjkihijciaaDocD
namespace Go.Proofs.Ytclmdjkihijciaa
open Go.RowKit LedMath
set_option linter.unusedVariables false

def MayR (w : World) (a n g : Nat) (v : Value) (wr : World) : Prop :=
  ∃ k : Nat, k ≤ 11 ∧ v = .int .u64 ((2 ^ k : Nat) : Int) ∧ (∀ j, j < k → 2 ^ j ≠ g) ∧ BoxB w w.heap.size a n g wr
set_option maxRecDepth 100000 in
set_option maxHeartbeats 4000000 in
theorem doc_May (w : World) {a n g : Nat} : Calls Try.prog 42 #[.agg #[.int .u64 (a : Int), .int .u64 (n : Int), .int .u64 (g : Int)]] w fun r w' => r = .returned (.bool (mayE a n g)) ∧ Below w.heap.size w w' := by
  have ST := Lib.hid (BoxB.start w a n g)
  obtain ⟨c0, c1, c2⟩ := ST.out.c
  obtain ⟨t, ht⟩ : ∃ t : Nat, max n 1 = t := ⟨_, rfl⟩
  have HT : Hid (∀ w', BoxB w w.heap.size a n g w' → Calls Try.prog 41 #[.agg #[.int .u64 (a : Int), .int .u64 (n : Int), .int .u64 (g : Int)]] w' fun r w2 => r = .returned (.int .u64 (t : Int)) ∧ BoxB w w.heap.size a n g w2) := Lib.hid fun w' k => by
    have := doc_takes w' a n g
    rw [ht] at this
    exact this.mono fun r w2 h => ⟨h.1, k.grew h.2⟩
  have MS : Hid (mayE a n g = (decide (a + t ≤ 1048576) && CalcMath.isP2 g && decide (g ≤ 1024) && decide (a % g = 0))) := Lib.hid (by unfold mayE; rw [ht])
  by_cases hn : 1048576 < n
  · have t1 : decide (1048576 < n) = true := decide_eq_true hn
    have t1' : decide ((1048576 : Int) < (n : Int)) = true := decide_eq_true (by omega)
    have FIN := Lib.hid (show mayE a n g = false by rw [MS.out, decide_eq_false (by omega)]; rfl)
    clear hn ht HT
    go_enter Try.func42, Try.ntmps42
    go_wp2_with fail
    go_quiet (fail)
    go_wp2_with fail
    go_ret
    exact ⟨by rw [FIN.out]; rfl, (by first | exact ST.out.below | exact ST.out.drew.below | exact below_drewN ST.out.below _)⟩
  have t1 : decide (1048576 < n) = false := decide_eq_false hn
  have t1' : decide ((1048576 : Int) < (n : Int)) = false := decide_eq_false (by omega)
  by_cases ha : 1048576 < a
  · have t2 : decide (1048576 < a) = true := decide_eq_true ha
    have t2' : decide ((1048576 : Int) < (a : Int)) = true := decide_eq_true (by omega)
    have FIN := Lib.hid (show mayE a n g = false by rw [MS.out, decide_eq_false (by omega)]; rfl)
    clear hn ht HT ha
    go_enter Try.func42, Try.ntmps42
    go_wp2_with fail
    go_quiet (fail)
    go_wp2_with fail
    go_ret
    exact ⟨by rw [FIN.out]; rfl, (by first | exact ST.out.below | exact ST.out.drew.below | exact below_drewN ST.out.below _)⟩
  have t2 : decide (1048576 < a) = false := decide_eq_false ha
  have t2' : decide ((1048576 : Int) < (a : Int)) = false := decide_eq_false (by omega)
  obtain ⟨z, hz⟩ : ∃ z, a + t = z := ⟨_, rfl⟩
  have sz : (a : Int) + (t : Int) = (z : Int) := by omega
  have s3 : IntKind.u64.wrap (z : Int) = (z : Int) := u64_in _ ⟨by omega, by omega⟩
  rw [hz] at MS
  clear ht hn ha hz
  by_cases hzb : 1048576 < z
  · have t3 : decide (1048576 < z) = true := decide_eq_true hzb
    have t3' : decide ((1048576 : Int) < (z : Int)) = true := decide_eq_true (by omega)
    have FIN := Lib.hid (show mayE a n g = false by rw [MS.out, decide_eq_false (by omega)]; rfl)
    clear hzb
    go_enter Try.func42, Try.ntmps42
    go_wp2_with fail
    go_region_held3 (fun w' => w'.cell? ⟨w.heap.size, 0, none⟩ = some (.int .u64 (a : Int)) ∧ w'.cell? ⟨w.heap.size, 1, none⟩ = some (.int .u64 (n : Int)) ∧ w'.cell? ⟨w.heap.size, 2, none⟩ = some (.int .u64 (g : Int))) (first | go_keep | exact ⟨c0, c1, c2⟩)
      (first
        | (go_at_call 41; (first | (with_reducible refine (HT.out _ (ST.out.drewN _)).mono ?_) | (with_reducible refine (HT.out _ ST.out.drew).mono ?_) | (with_reducible refine (HT.out _ ST.out).mono ?_)); rintro r w5 ⟨rfl, hst⟩; obtain ⟨c0, c1, c2⟩ := hst.c; have ST := Lib.hid hst; clear hst))
    go_wp2_with fail
    go_ret
    exact ⟨by rw [FIN.out]; rfl, ST.out.below⟩
  · have t3 : decide (1048576 < z) = false := decide_eq_false hzb
    have t3' : decide ((1048576 : Int) < (z : Int)) = false := decide_eq_false (by omega)
    have MS2 := Lib.hid (show mayE a n g = (CalcMath.isP2 g && decide (g ≤ 1024) && decide (a % g = 0)) by rw [MS.out, decide_eq_true (by omega), Bool.true_and])
    clear hzb MS
    go_enter Try.func42, Try.ntmps42
    go_wp2_with fail
    go_region_held3 (fun w' => w'.cell? ⟨w.heap.size, 0, none⟩ = some (.int .u64 (a : Int)) ∧ w'.cell? ⟨w.heap.size, 1, none⟩ = some (.int .u64 (n : Int)) ∧ w'.cell? ⟨w.heap.size, 2, none⟩ = some (.int .u64 (g : Int))) (first | go_keep | exact ⟨c0, c1, c2⟩)
      (first
        | (go_at_call 41; (first | (with_reducible refine (HT.out _ (ST.out.drewN _)).mono ?_) | (with_reducible refine (HT.out _ ST.out.drew).mono ?_) | (with_reducible refine (HT.out _ ST.out).mono ?_)); rintro r w5 ⟨rfl, hst⟩; obtain ⟨c0, c1, c2⟩ := hst.c; have ST := Lib.hid hst; clear hst))
    have I0 := Lib.hid (show MayR w a n g (.int .u64 1) w5 from ⟨0, by omega, rfl, fun j hj => absurd hj (Nat.not_lt_zero _), ST.out⟩)
    clear HT c0 c1 c2 t1 t1' t2 t2' t3 t3' sz s3 ST
    go_wp2_with fail
    go_loopw [3] (fun v wr => MayR w a n g v wr) (fun v _ => 2048 - (intOf v).toNat)
    case atStart => exact I0.out
    case round =>
      clear I0
      obtain ⟨k, hk, rfl, hno, hst⟩ := hrel
      have ST := Lib.hid hst
      obtain ⟨c0, c1, c2⟩ := hst.c
      obtain ⟨x, hx⟩ : ∃ x, 2 ^ k = x := ⟨_, rfl⟩
      rw [hx]
      have hx0 : 1 ≤ x := by rw [← hx]; exact Nat.one_le_two_pow
      by_cases hx1 : x ≤ 1024
      · have t4 : decide (x ≤ 1024) = true := decide_eq_true hx1
        have t4' : decide ((x : Int) ≤ (1024 : Int)) = true := decide_eq_true (by omega)
        have hk10 : k ≤ 10 := by
          by_cases h : k = 11
          · subst h; omega
          · omega
        by_cases hxg : x = g
        · have hp : CalcMath.isP2 g = true := (CalcMath.isP2_iff g).2 ⟨k, by rw [← hxg, hx]⟩
          have q0 : ¬ ((x : Int) = 0) := by omega
          obtain ⟨m, hm⟩ : ∃ m : Nat, a % x = m := ⟨_, rfl⟩
          have d1 : (a : Int) % (x : Int) = (m : Int) := by rw [← hm]; exact (Int.natCast_emod a x).symm
          have d2 : Int.tmod (a : Int) (x : Int) = (m : Int) := by rw [← hm]; exact (Int.ofNat_tmod _ _).symm
          have FIN := Lib.hid (show mayE a n g = decide (m = 0) by rw [MS2.out, hp, ← hxg, decide_eq_true hx1, hm]; rfl)
          obtain ⟨b, hb⟩ : ∃ b, ((m : Int) == 0) = b := ⟨_, rfl⟩
          have HZ := Lib.hid (show decide (m = 0) = b by rw [← hb, Bool.eq_iff_iff]; simp)
          rw [← hxg] at c2
          have t5 : ((x : Int) == (x : Int)) = true := by simp
          clear hxg hp hm hx hno hst hx1 hk hk10
          go_wp2_with fail
          go_ret
          exact ⟨by rw [FIN.out, HZ.out]; rfl, ST.out.below⟩
        · have q5 : ¬ ((x : Int) = (g : Int)) := by omega
          have w1 : IntKind.u64.wrap ((x : Int) * 2) = (x : Int) * 2 := u64_in _ ⟨by omega, by omega⟩
          have NO2 := Lib.hid (show ∀ j, j < k + 1 → 2 ^ j ≠ g from fun j hj => by
            by_cases h : j = k
            · subst h; rw [hx]; exact hxg
            · exact hno j (by omega))
          have X2 := Lib.hid (show ((2 ^ (k + 1) : Nat) : Int) = (x : Int) * 2 by rw [Nat.pow_succ, hx]; omega)
          clear hxg hno hst hx hk
          go_wp2_with fail
          go_roundw
          case rel => exact ⟨k + 1, by omega, by rw [X2.out], NO2.out, ST.out⟩
          case measure => simp [intOf] <;> omega
      · have t4 : decide (x ≤ 1024) = false := decide_eq_false hx1
        have t4' : decide ((x : Int) ≤ (1024 : Int)) = false := decide_eq_false (by omega)
        have FIN := Lib.hid (show mayE a n g = false by
          rw [MS2.out, ← Bool.not_eq_true]
          intro h
          simp only [Bool.and_eq_true, decide_eq_true_eq] at h
          obtain ⟨j, hj⟩ := (CalcMath.isP2_iff g).1 h.1.1
          have h2 := h.1.2
          by_cases hjk : j < k
          · exact hno j hjk hj.symm
          · have := Nat.pow_le_pow_right (n := 2) (by omega) (show k ≤ j by omega)
            omega)
        clear hno hst hx hk hx1
        go_wp2_with fail
        go_ret
        exact ⟨by rw [FIN.out]; rfl, ST.out.below⟩
end Go.Proofs.Ytclmdjkihijciaa
