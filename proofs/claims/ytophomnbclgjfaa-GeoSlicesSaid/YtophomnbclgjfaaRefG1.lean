/- The document's own geo (allotmentref06): At, Addr: contracts. -/
import Derived.Test.YtophomnbclgjfaaAliveG
namespace Go.Proofs.Ytophomnbclgjfaa
open Go.RowKit GeoMath
set_option linter.unusedVariables false

theorem ref_at (w : World) (a : Nat) (ha : U64B a) : Calls Try.prog 12 #[.int .u64 (a : Int)] w fun e w' => e = .returned (.tuple #[plcV (atN a), .int .i64 (atE a)]) ∧ Below w.heap.size w w' := by
  by_cases h : a < 1048576
  · rw [atN_lt h, atE_lt h]
    have t1 : decide ((1048576 : Int) ≤ (a : Int)) = false := decide_eq_false (by omega)
    obtain ⟨x, hx⟩ : ∃ x, a / 16384 = x := ⟨_, rfl⟩
    obtain ⟨y, hy⟩ : ∃ y, a % 16384 = y := ⟨_, rfl⟩
    obtain ⟨z, hz⟩ : ∃ z, y / 1024 = z := ⟨_, rfl⟩
    obtain ⟨o, ho⟩ : ∃ o, a % 1024 = o := ⟨_, rfl⟩
    rw [hy, hx, hz, ho]
    have d1 : Int.tdiv (a : Int) 16384 = (x : Int) := by rw [← hx]; exact (Int.ofNat_tdiv _ _).symm
    have d2 : Int.tmod (a : Int) 16384 = (y : Int) := by rw [← hy]; exact (Int.ofNat_tmod _ _).symm
    have d3 : Int.tdiv (y : Int) 1024 = (z : Int) := by rw [← hz]; exact (Int.ofNat_tdiv _ _).symm
    have d4 : Int.tmod (a : Int) 1024 = (o : Int) := by rw [← ho]; exact (Int.ofNat_tmod _ _).symm
    have i1 : (a : Int) / 16384 = (x : Int) := by omega
    have i2 : (a : Int) % 16384 = (y : Int) := by omega
    have i3 : (y : Int) / 1024 = (z : Int) := by omega
    have i4 : (a : Int) % 1024 = (o : Int) := by omega
    have w1 : IntKind.i64.wrap (x : Int) = (x : Int) := IntWalk.i64_in _ ⟨by omega, by omega⟩
    have w2 : IntKind.i64.wrap (z : Int) = (z : Int) := IntWalk.i64_in _ ⟨by omega, by omega⟩
    clear h hx hy hz ho
    go_enter Try.func12, Try.ntmps12
    go_wp2
    refine bodyPost_ret (v := .tuple #[plcV ⟨(x : Int), (z : Int), o⟩, .int .i64 0]) ?_ rfl ⟨rfl, (Below.refl _ w).alloc (Nat.le_refl _) _⟩
    simp [results, Try.results12, go_sem, plcV]
  · rw [atN_ge h, atE_ge h]
    have t1 : decide ((1048576 : Int) ≤ (a : Int)) = true := decide_eq_true (by omega)
    clear h
    go_enter Try.func12, Try.ntmps12
    go_wp2
    refine bodyPost_ret (v := .tuple #[plcV ⟨0, 0, 0⟩, .int .i64 3]) ?_ rfl ⟨rfl, (Below.refl _ w).alloc (Nat.le_refl _) _⟩
    simp [results, Try.results12, go_sem, plcV]
theorem ref_addr (w : World) (g l : Int) (o : Nat) (hg : I64B g) (hl : I64B l) (ho : U64B o) : Calls Try.prog 14 #[.agg #[.int .i64 g, .int .i64 l, .int .u64 (o : Int)]] w fun e w' => e = .returned (.tuple #[.int .u64 ((addrN g l o : Nat) : Int), .int .i64 (addrE g l o)]) ∧ Below w.heap.size w w' := by
  obtain ⟨g1, g2⟩ := hg
  obtain ⟨l1, l2⟩ := hl
  have hcase : (∃ x y : Nat, g = (x : Int) ∧ l = (y : Int) ∧ x ≤ 63 ∧ y ≤ 15 ∧ o ≤ 1023) ∨ (isPlc g l o = false ∧ ((decide (g < 0) = true) ∨ (decide (g < 0) = false ∧ decide ((63 : Int) < g) = true) ∨ (decide (g < 0) = false ∧ decide ((63 : Int) < g) = false ∧ decide (l < 0) = true) ∨ (decide (g < 0) = false ∧ decide ((63 : Int) < g) = false ∧ decide (l < 0) = false ∧ decide ((15 : Int) < l) = true) ∨ (decide (g < 0) = false ∧ decide ((63 : Int) < g) = false ∧ decide (l < 0) = false ∧ decide ((15 : Int) < l) = false ∧ decide ((1023 : Int) < (o : Int)) = true))) := by
    by_cases h : isPlc g l o = true
    · obtain ⟨h1, h2, h3, h4, h5⟩ := isPlc_iff.1 h
      exact Or.inl ⟨g.toNat, l.toNat, by omega, by omega, by omega, by omega, h5⟩
    · refine Or.inr ⟨Bool.eq_false_iff.2 h, ?_⟩
      rw [isPlc_iff] at h
      simp only [decide_eq_true_iff, decide_eq_false_iff_not]
      omega
  rcases hcase with ⟨x, y, rfl, rfl, hx, hy, ho2⟩ | ⟨hno, hcase⟩
  · obtain ⟨e1, e2⟩ := addr_of (l := y) hx hy ho2
    rw [e1, e2]
    have t1 : decide ((x : Int) < 0) = false := decide_eq_false (by omega)
    have t2 : decide ((63 : Int) < (x : Int)) = false := decide_eq_false (by omega)
    have t3 : decide ((y : Int) < 0) = false := decide_eq_false (by omega)
    have t4 : decide ((15 : Int) < (y : Int)) = false := decide_eq_false (by omega)
    have t5 : decide ((1023 : Int) < (o : Int)) = false := decide_eq_false (by omega)
    have w1 : IntKind.u64.wrap (x : Int) = (x : Int) := u64_in _ ⟨by omega, by omega⟩
    have w2 : IntKind.u64.wrap (y : Int) = (y : Int) := u64_in _ ⟨by omega, by omega⟩
    clear e1 e2
    go_enter Try.func14, Try.ntmps14
    go_wp2
    go_ret2
    exact ⟨(show Ending.returned (.tuple #[.int .u64 ((x : Int) * 16384 + (y : Int) * 1024 + (o : Int)), .int .i64 0]) = _ from ret_u2 (by omega) rfl), (Below.refl _ w).alloc (Nat.le_refl _) _⟩
  · have e1 : addrN g l o = 0 := by unfold addrN; rw [if_neg (by rw [hno]; decide)]
    have e2 : addrE g l o = 3 := by unfold addrE; rw [if_neg (by rw [hno]; decide)]
    rw [e1, e2]
    clear e1 e2 hno
    rcases hcase with t1 | ⟨t1, t2⟩ | ⟨t1, t2, t3⟩ | ⟨t1, t2, t3, t4⟩ | ⟨t1, t2, t3, t4, t5⟩
    all_goals
      go_enter Try.func14, Try.ntmps14
      go_wp2
      go_ret2
      exact ⟨rfl, (Below.refl _ w).alloc (Nat.le_refl _) _⟩
end Go.Proofs.Ytophomnbclgjfaa
