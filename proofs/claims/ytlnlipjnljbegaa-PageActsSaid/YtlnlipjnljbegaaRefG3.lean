/- The document's own runs (allotmentref06): Index, In, Meet: contracts. -/
import Derived.Test.YtlnlipjnljbegaaRefG2
namespace Go.Proofs.Ytlnlipjnljbegaa
open Go.RowKit GeoMath
set_option linter.unusedVariables false

/-- Where an address stands to block i. -/
theorem stands (f s i a : Nat) : (a = f + i * s ∧ ((a : Int) == (f : Int) + (i : Int) * (s : Int)) = true) ∨
    ((f + i * s < a ∧ a < f + i * s + s) ∧ ((a : Int) == (f : Int) + (i : Int) * (s : Int)) = false ∧ decide ((f : Int) + (i : Int) * (s : Int) < (a : Int)) = true ∧ decide ((a : Int) < (f : Int) + (i : Int) * (s : Int) + (s : Int)) = true) ∨
    (¬ (f + i * s ≤ a ∧ a < f + i * s + s) ∧ ((a : Int) == (f : Int) + (i : Int) * (s : Int)) = false ∧ decide ((f : Int) + (i : Int) * (s : Int) < (a : Int)) = false) ∨
    (¬ (f + i * s ≤ a ∧ a < f + i * s + s) ∧ ((a : Int) == (f : Int) + (i : Int) * (s : Int)) = false ∧ decide ((f : Int) + (i : Int) * (s : Int) < (a : Int)) = true ∧ decide ((a : Int) < (f : Int) + (i : Int) * (s : Int) + (s : Int)) = false) ∨
    (s = 0) := by
  rw [← cast_mul]
  obtain ⟨q, hq⟩ : ∃ q, i * s = q := ⟨_, rfl⟩
  rw [hq]
  by_cases h1 : a = f + q
  · exact Or.inl ⟨h1, by rw [beq_iff_eq]; omega⟩
  · have e : ((a : Int) == (f : Int) + (q : Int)) = false := by rw [beq_eq_false_iff_ne]; omega
    by_cases h2 : f + q < a
    · by_cases h3 : a < f + q + s
      · exact Or.inr (Or.inl ⟨⟨h2, h3⟩, e, decide_eq_true (by omega), decide_eq_true (by omega)⟩)
      · exact Or.inr (Or.inr (Or.inr (Or.inl ⟨by omega, e, decide_eq_true (by omega), decide_eq_false (by omega)⟩)))
    · exact Or.inr (Or.inr (Or.inl ⟨by omega, e, decide_eq_false (by omega)⟩))
set_option maxHeartbeats 1000000 in
theorem ref_index (w : World) (f s : Nat) (n : Int) (a : Nat) (hf : U64B f) (hs : U64B s) (hn : I64B n) (ha : U64B a) : Calls Try.prog 45 #[runV f s n, .int .u64 (a : Int)] w fun e w' => e = .returned (.tuple #[.int .i64 ((indexN f s n a : Nat) : Int), .int .i64 (indexE f s n a)]) ∧ Below w.heap.size w w' := by
  have HM := Lib.hid (fun w => ref_may w f s n hf hs hn)
  obtain ⟨n1, n2⟩ := hn
  unfold runV at HM ⊢
  cases hm : mayN f s n with
  | false =>
    obtain ⟨e1, e2⟩ := index_bad (a := a) (fun x => by rw [hm] at x; cases x)
    rw [e1, e2]
    rw [hm] at HM
    clear e1 e2 hm
    go_enter Try.func45, Try.ntmps45
    go_wp2_with fail
    refine (HM.out _).mono ?_; rintro e w1 ⟨rfl, hb⟩
    have B1 := Lib.hid (below_then ((Below.refl _ w).alloc (Nat.le_refl _) _) (by simp) hb)
    clear hb
    go_wp2
    go_ret2
    exact ⟨rfl, B1.out⟩
  | true =>
    rw [hm] at HM
    obtain ⟨m, rfl, h1, h2, h3, h4, h5⟩ := may_true hm
    obtain ⟨k, hk⟩ : ∃ k, indexN f s (m : Int) a = k := ⟨_, rfl⟩
    obtain ⟨y, hy⟩ : ∃ y, indexE f s (m : Int) a = y := ⟨_, rfl⟩
    have HK := Lib.hid hk; have HY := Lib.hid hy; have HMAY := Lib.hid hm
    rw [hk, hy]
    clear hk hy hm h5
    go_enter Try.func45, Try.ntmps45
    go_wp2_with fail
    refine (HM.out _).mono ?_; rintro e w1 ⟨rfl, hb⟩
    have B1 := Lib.hid (below_then ((Below.refl _ w).alloc (Nat.le_refl _) _) (by simp) hb)
    have K := (Blk.new w 24 #[.int .u64 (f : Int), .int .u64 (s : Int), .int .i64 (m : Int)]).grew hb
    obtain ⟨bq, hbq⟩ : ∃ bq, w.heap.size = bq := ⟨_, rfl⟩
    rw [hbq] at K
    have B1b : Hid (Below bq w w1) := by rw [← hbq]; exact B1
    have r0 : w1.cell? ⟨bq, 0, none⟩ = some (.int .u64 (f : Int)) := K.cell 0
    have r1 : w1.cell? ⟨bq, 1, none⟩ = some (.int .u64 (s : Int)) := K.cell 1
    have r2 : w1.cell? ⟨bq, 2, none⟩ = some (.int .i64 (m : Int)) := K.cell 2
    clear hb K
    go_wp2
    go_loop [6] (fun i => ∃ c : Nat, c ≤ m ∧ i = .int .i64 (c : Int) ∧ ∀ d : Nat, d < c → ¬ (f + d * s ≤ a ∧ a < f + d * s + s)) (fun i => m - (intOf i).toNat)
    case atStart => exact ⟨0, by omega, rfl, fun d hd => by omega⟩
    case round =>
      obtain ⟨c, hc, rfl, hno⟩ := hrel
      have NO := Lib.hid hno
      clear hno
      by_cases hlt : c < m
      · have t0 : decide ((c : Int) < (m : Int)) = true := decide_eq_true (by omega)
        have t0' : decide (c < m) = true := decide_eq_true (by omega)
        obtain ⟨p1, p2⟩ := prod_bd (show c ≤ 1024 by omega) h2
        have w1' : IntKind.u64.wrap (c : Int) = (c : Int) := u64_in _ ⟨by omega, by omega⟩
        rcases stands f s c a with ⟨hh, t1⟩ | ⟨hh, t1, t2, t3⟩ | ⟨hh, t1, t2⟩ | ⟨hh, t1, t2, t3⟩ | hh
        · obtain ⟨e1, e2⟩ := index_hit HMAY.out (show (c : Int) < (m : Int) by omega) hh
          have e3 := HK.out
          have e4 := HY.out
          rw [e1] at e3
          rw [e2] at e4
          obtain rfl : c = k := e3
          obtain rfl : 0 = y := e4
          clear e1 e2 hh
          go_wp2
          go_ret2
          exact ⟨rfl, by first | exact B1.out | exact B1b.out⟩
        · obtain ⟨e1, e2⟩ := index_mid HMAY.out (show (c : Int) < (m : Int) by omega) hh.1 hh.2
          have e3 := HK.out
          have e4 := HY.out
          rw [e1] at e3
          rw [e2] at e4
          obtain rfl : 0 = k := e3
          obtain rfl : 5 = y := e4
          clear e1 e2 hh
          go_wp2
          go_ret2
          exact ⟨rfl, by first | exact B1.out | exact B1b.out⟩
        · have HH := Lib.hid hh
          clear hh
          go_wp2
          go_round
          case rel => exact ⟨c + 1, by omega, by go_num, fun d hd => by
            rcases Nat.lt_or_ge d c with h | h
            · exact NO.out d h
            · obtain rfl : d = c := by omega
              exact HH.out⟩
          case measure => simp [intOf]; omega
        · have HH := Lib.hid hh
          clear hh
          go_wp2
          go_round
          case rel => exact ⟨c + 1, by omega, by go_num, fun d hd => by
            rcases Nat.lt_or_ge d c with h | h
            · exact NO.out d h
            · obtain rfl : d = c := by omega
              exact HH.out⟩
          case measure => simp [intOf]; omega
        · omega
      · have hcm : c = m := by omega
        have hout := hits_none (f := f) (a := a) (n := (m : Int)) h1 (fun i hi => NO.out i (by omega))
        obtain ⟨e1, e2⟩ := index_out HMAY.out hout
        have e3 := HK.out
        have e4 := HY.out
        rw [e1] at e3
        rw [e2] at e4
        obtain rfl : 0 = k := e3
        obtain rfl : 3 = y := e4
        have t0 : decide ((c : Int) < (m : Int)) = false := decide_eq_false (by omega)
        have t0' : decide (c < m) = false := decide_eq_false (by omega)
        clear e1 e2 hout
        go_wp2
        go_ret2
        exact ⟨rfl, by first | exact B1.out | exact B1b.out⟩
end Go.Proofs.Ytlnlipjnljbegaa
