/- The program's geo (the code that landed): below, bytes, may, End, has: contracts. -/
import Derived.Test.YtomepdgddpajoaaDoorRunMath
import Derived.Test.YtomepdgddpajoaaDoorQuiet
namespace Go.Proofs.YtomepdgddpajoaaDoor
open Go.RowKit GeoMath
set_option linter.unusedVariables false

theorem code_below (w : World) (i n : Int) (hi : I64B i) (hn : I64B n) : Calls Tryd.prog 93 #[.int .i64 i, .int .i64 n] w fun e w' => e = .returned (.bool (decide (0 ≤ i) && decide (i < n))) ∧ w' = w := by
  obtain ⟨i1, i2⟩ := hi
  obtain ⟨n1, n2⟩ := hn
  by_cases h : 0 ≤ i
  · have t1 : decide ((0 : Int) ≤ i) = true := decide_eq_true h
    obtain ⟨b, hb⟩ : ∃ b, decide (i < n) = b := ⟨_, rfl⟩
    rw [t1, hb]
    go_enter Tryd.func93, Tryd.ntmps93
    go_wp2
    go_ret
    exact ⟨by simp, rfl⟩
  · have t1 : decide ((0 : Int) ≤ i) = false := decide_eq_false h
    rw [t1]
    go_enter Tryd.func93, Tryd.ntmps93
    go_wp2
    go_ret
    exact ⟨by simp, rfl⟩
theorem code_bytes (w : World) (f s m : Nat) (hf : U64B f) (hs : s ≤ 1048576) (hm : m ≤ 1024) : Calls Tryd.prog 65 #[runV f s (m : Int)] w fun e w' => e = .returned (.int .u64 ((m : Int) * (s : Int))) ∧ Below w.heap.size w w' := by
  obtain ⟨p1, p2⟩ := prod_bd hm hs
  have w1 : IntKind.u64.wrap (m : Int) = (m : Int) := u64_in _ ⟨by omega, by omega⟩
  unfold runV
  go_enter Tryd.func65, Tryd.ntmps65
  go_wp2
  go_ret
  exact ⟨rfl, (Below.refl _ w).alloc (Nat.le_refl _) _⟩
/-- One run in a block. -/
structure OneRun (w : World) (b : Nat) (t : TypeId) (f s : Nat) (n : Int) (w' : World) : Prop where
  B : Blk w' b t (runC f s n)
  below : Below w.heap.size w w'
theorem OneRun.grew {w w' w2 : World} {b : Nat} {t : TypeId} {f s : Nat} {n : Int} (h : OneRun w b t f s n w') (hb : Below w'.heap.size w' w2) : OneRun w b t f s n w2 := ⟨h.B.grew hb, below_then h.below h.below.size hb⟩
theorem OneRun.drew {w w' : World} {b : Nat} {t : TypeId} {f s : Nat} {n : Int} (h : OneRun w b t f s n w') : OneRun w b t f s n w'.drew := ⟨h.B, h.below.drew⟩
def Cells3 (w' : World) (b f s : Nat) (n : Int) : Prop := w'.cell? ⟨b, 0, none⟩ = some (.int .u64 (f : Int)) ∧ w'.cell? ⟨b, 1, none⟩ = some (.int .u64 (s : Int)) ∧ w'.cell? ⟨b, 2, none⟩ = some (.int .i64 n)
theorem OneRun.cells {w w' : World} {b : Nat} {t : TypeId} {f s : Nat} {n : Int} (h : OneRun w b t f s n w') : Cells3 w' b f s n := ⟨h.B.cell 0, h.B.cell 1, h.B.cell 2⟩
theorem run_boxed (w : World) (t : TypeId) (f s : Nat) (n : Int) {W : World} (hW : w.alloc (.cells #[.int .u64 (f : Int), .int .u64 (s : Int), .int .i64 n] t) = W) : OneRun w w.heap.size t f s n W := by
  subst hW
  exact ⟨Blk.new w _ _, (Below.refl _ w).alloc (Nat.le_refl _) _⟩
theorem may_rest {f s m : Nat} (h1 : 1 ≤ s) (h2 : s ≤ 1048576) (h3 : m ≤ 1024) (h4 : f ≤ 1048576) : decide ((m : Int) * (s : Int) ≤ 1048576 - (f : Int)) = mayN f s (m : Int) := by
  rw [Bool.eq_iff_iff, decide_eq_true_iff, may_iff, Int.toNat_natCast, ← cast_mul]
  constructor
  · intro h; exact ⟨h1, h2, by omega, by omega, h4, by omega⟩
  · rintro ⟨_, _, _, _, _, h⟩; omega
theorem may_cases' {f s : Nat} {n : Int} :
    (∃ m : Nat, n = (m : Int) ∧ 1 ≤ s ∧ s ≤ 1048576 ∧ m ≤ 1024 ∧ f ≤ 1048576) ∨
    (mayN f s n = false ∧ (decide ((s : Int) < 1) = true ∨ (decide ((s : Int) < 1) = false ∧ decide ((1048576 : Int) < (s : Int)) = true) ∨ (decide ((s : Int) < 1) = false ∧ decide ((1048576 : Int) < (s : Int)) = false ∧ decide (n < 0) = true) ∨
      (decide ((s : Int) < 1) = false ∧ decide ((1048576 : Int) < (s : Int)) = false ∧ decide (n < 0) = false ∧ decide ((1024 : Int) < n) = true) ∨ (decide ((s : Int) < 1) = false ∧ decide ((1048576 : Int) < (s : Int)) = false ∧ decide (n < 0) = false ∧ decide ((1024 : Int) < n) = false ∧ decide ((1048576 : Int) < (f : Int)) = true))) := by
  by_cases h : 1 ≤ s ∧ s ≤ 1048576 ∧ 0 ≤ n ∧ n ≤ 1024 ∧ f ≤ 1048576
  · obtain ⟨h1, h2, h3, h4, h5⟩ := h
    obtain ⟨m, rfl⟩ := Int.eq_ofNat_of_zero_le h3
    exact Or.inl ⟨m, rfl, h1, h2, by omega, h5⟩
  · refine Or.inr ⟨?_, ?_⟩
    · rw [Bool.eq_false_iff]
      intro x
      obtain ⟨h1, h2, h3, h4, h5, _⟩ := may_iff.1 x
      exact h ⟨h1, h2, h3, h4, h5⟩
    · simp only [decide_eq_true_iff, decide_eq_false_iff_not]
      omega
set_option maxHeartbeats 1000000 in
theorem code_may (w : World) (f s : Nat) (n : Int) (hf : U64B f) (hs : U64B s) (hn : I64B n) : Calls Tryd.prog 64 #[runV f s n] w fun e w' => e = .returned (.bool (mayN f s n)) ∧ Below w.heap.size w w' := by
  obtain ⟨n1, n2⟩ := hn
  rcases may_cases' (f := f) (s := s) (n := n) with ⟨m, rfl, h1, h2, h3, h4⟩ | ⟨hno, hc⟩
  · have HB := Lib.hid (fun w => code_bytes w f s m hf h2 h3)
    have E := Lib.hid (may_rest h1 h2 h3 h4)
    obtain ⟨p, hp⟩ : ∃ p : Int, (m : Int) * (s : Int) = p := ⟨_, rfl⟩
    obtain ⟨p1, p2⟩ := prod_bd h3 h2
    rw [hp] at HB E p1 p2
    obtain ⟨b, hb⟩ : ∃ b, mayN f s (m : Int) = b := ⟨_, rfl⟩
    rw [hb] at E ⊢
    have t1 : decide ((s : Int) < 1) = false := decide_eq_false (by omega)
    have t2 : decide ((1048576 : Int) < (s : Int)) = false := decide_eq_false (by omega)
    have t3 : decide ((m : Int) < 0) = false := decide_eq_false (by omega)
    have t4 : decide ((1024 : Int) < (m : Int)) = false := decide_eq_false (by omega)
    have t5 : decide ((1048576 : Int) < (f : Int)) = false := decide_eq_false (by omega)
    clear hp hb
    unfold runV at HB ⊢
    go_enter Tryd.func64, Tryd.ntmps64
    go_wp2_with fail
    generalize hW : w.alloc (.cells #[.int .u64 (f : Int), .int .u64 (s : Int), .int .i64 (m : Int)] 68) = W
    have ST := Lib.hid (run_boxed w 68 f s (m : Int) hW)
    obtain ⟨bb, hbb⟩ : ∃ bb, w.heap.size = bb := ⟨_, rfl⟩
    rw [hbb] at ST
    clear hW
    obtain ⟨E', WW, x0, hx0, hE, hS⟩ := classOf _ ST.out.drew
    have c0 : ∀ x, (WW x).cell? ⟨bb, 0, none⟩ = some (.int .u64 (f : Int)) := fun x => (hS x).cells.1
    have c1 : ∀ x, (WW x).cell? ⟨bb, 1, none⟩ = some (.int .u64 (s : Int)) := fun x => (hS x).cells.2.1
    have c2 : ∀ x, (WW x).cell? ⟨bb, 2, none⟩ = some (.int .i64 (m : Int)) := fun x => (hS x).cells.2.2
    have hne : Nonempty E' := ⟨x0⟩
    have HS := Lib.hid hS; have HEE := Lib.hid hE
    clear hS hE ST
    refine wp_region_quiet_of WW x0 hx0 (by kernel_rfl) (by kernel_rfl) ?_
    repeat (go_big_quiet_step (first
      | (go_at_call_of 65 f; refine (HB.out _).mono ?_; rintro e w5 ⟨rfl, hb⟩; exact ⟨rfl, HEE.out _ ((HS.out _).grew hb)⟩)))
    refine wpQuiet_nil ?_
    rintro _ ⟨nq, rfl⟩
    go_wp2
    go_ret
    exact ⟨(show Ending.returned (.bool (decide (p ≤ 1048576 - (f : Int)))) = _ from by rw [E.out]), (HS.out nq).below⟩
  · rw [hno]
    clear hno
    unfold runV
    rcases hc with t1 | ⟨t1, t2⟩ | ⟨t1, t2, t3⟩ | ⟨t1, t2, t3, t4⟩ | ⟨t1, t2, t3, t4, t5⟩
    all_goals
      go_enter Tryd.func64, Tryd.ntmps64
      go_wp2
      go_ret
      exact ⟨rfl, (Below.refl _ w).alloc (Nat.le_refl _) _⟩
set_option maxHeartbeats 1000000 in
theorem code_end (w : World) (f s : Nat) (n : Int) (hf : U64B f) (hs : U64B s) (hn : I64B n) : Calls Tryd.prog 32 #[runV f s n] w fun e w' => e = .returned (.int .u64 ((endN f s n : Nat) : Int)) ∧ Below w.heap.size w w' := by
  have HM := Lib.hid (fun w => code_may w f s n hf hs hn)
  obtain ⟨n1, n2⟩ := hn
  obtain ⟨E, hE⟩ : ∃ E, endN f s n = E := ⟨_, rfl⟩
  rw [hE]
  cases hm : mayN f s n with
  | false =>
    obtain rfl : E = 0 := by rw [← hE]; exact end_false hm
    rw [hm] at HM
    clear hE hm
    unfold runV at HM ⊢
    go_enter Tryd.func32, Tryd.ntmps32
    go_wp2_with fail
    refine (HM.out _).mono ?_; rintro e w1 ⟨rfl, hb⟩
    have B1 := Lib.hid (below_then ((Below.refl _ w).alloc (Nat.le_refl _) _) (by simp) hb)
    clear hb
    go_wp2
    go_ret
    exact ⟨rfl, B1.out⟩
  | true =>
    rw [hm] at HM
    obtain ⟨m, rfl, h1, h2, h3, h4, h5⟩ := may_true hm
    have HE := Lib.hid (end_true hm)
    rw [hE] at HE
    have HB := Lib.hid (fun w => code_bytes w f s m hf h2 h3)
    obtain ⟨p1, p2⟩ := prod_bd h3 h2
    obtain ⟨p, hp⟩ : ∃ p : Int, (m : Int) * (s : Int) = p := ⟨_, rfl⟩
    rw [hp] at HB HE p1 p2
    clear hE hm h5 hp
    unfold runV at HM HB ⊢
    go_enter Tryd.func32, Tryd.ntmps32
    go_wp2_with fail
    generalize hW : w.alloc (.cells #[.int .u64 (f : Int), .int .u64 (s : Int), .int .i64 (m : Int)] 68) = W
    have ST := Lib.hid (run_boxed w 68 f s (m : Int) hW)
    obtain ⟨bb, hbb⟩ : ∃ bb, w.heap.size = bb := ⟨_, rfl⟩
    rw [hbb] at ST
    clear hW
    refine (HM.out _).mono ?_; rintro e w1 ⟨rfl, hb⟩
    have ST := Lib.hid (ST.out.grew hb)
    clear hb
    go_wp2_with fail
    obtain ⟨E', WW, x0, hx0, hE, hS⟩ := classOf _ ST.out.drew
    have c0 : ∀ x, (WW x).cell? ⟨bb, 0, none⟩ = some (.int .u64 (f : Int)) := fun x => (hS x).cells.1
    have c1 : ∀ x, (WW x).cell? ⟨bb, 1, none⟩ = some (.int .u64 (s : Int)) := fun x => (hS x).cells.2.1
    have c2 : ∀ x, (WW x).cell? ⟨bb, 2, none⟩ = some (.int .i64 (m : Int)) := fun x => (hS x).cells.2.2
    have hne : Nonempty E' := ⟨x0⟩
    have HS := Lib.hid hS; have HEE := Lib.hid hE
    clear hS hE ST
    refine wp_region_quiet_of WW x0 hx0 (by kernel_rfl) (by kernel_rfl) ?_
    repeat (go_big_quiet_step (first
      | (go_at_call_of 65 f; refine (HB.out _).mono ?_; rintro e w5 ⟨rfl, hb⟩; exact ⟨rfl, HEE.out _ ((HS.out _).grew hb)⟩)))
    refine wpQuiet_nil ?_
    rintro _ ⟨nq, rfl⟩
    go_wp2
    go_ret
    exact ⟨(show Ending.returned (.int .u64 ((f : Int) + p)) = _ from ret_u1 HE.out.symm), (HS.out nq).below⟩
/-- Of a run that may be: is an address in it. -/
theorem code_has (w : World) (f s : Nat) (n : Int) (a : Nat) (hf : U64B f) (hs : U64B s) (hn : I64B n) (ha : U64B a) (hm : mayN f s n = true) : Calls Tryd.prog 108 #[runV f s n, .int .u64 (a : Int)] w fun e w' => e = .returned (.bool (hits f s n a)) ∧ Below w.heap.size w w' := by
  have HE := Lib.hid (fun w => code_end w f s n hf hs hn)
  obtain ⟨n1, n2⟩ := hn
  have hh : hits f s n a = (decide (f ≤ a) && decide (a < endN f s n)) := by unfold hits endN; rw [if_pos hm]
  rw [hh]
  obtain ⟨E, hE⟩ : ∃ E, endN f s n = E := ⟨_, rfl⟩
  rw [hE] at HE ⊢
  clear hE hh hm
  unfold runV at HE ⊢
  by_cases h : f ≤ a
  · have t1 : decide ((f : Int) ≤ (a : Int)) = true := decide_eq_true (by omega)
    have t1' : decide (f ≤ a) = true := decide_eq_true h
    obtain ⟨b, hb⟩ : ∃ b, decide (a < E) = b := ⟨_, rfl⟩
    have t2 : decide ((a : Int) < (E : Int)) = b := by rw [← hb, Bool.eq_iff_iff, decide_eq_true_iff, decide_eq_true_iff]; omega
    rw [t1', hb]
    go_enter Tryd.func108, Tryd.ntmps108
    go_wp2_with fail
    refine (HE.out _).mono ?_; rintro e w1 ⟨rfl, hb⟩
    have B1 := Lib.hid (below_then ((Below.refl _ w).alloc (Nat.le_refl _) _) (by simp) hb)
    clear hb
    go_wp2
    go_ret
    exact ⟨by simp, B1.out⟩
  · have t1 : decide ((f : Int) ≤ (a : Int)) = false := decide_eq_false (by omega)
    have t1' : decide (f ≤ a) = false := decide_eq_false h
    rw [t1']
    go_enter Tryd.func108, Tryd.ntmps108
    go_wp2
    go_ret
    exact ⟨by simp, (Below.refl _ w).alloc (Nat.le_refl _) _⟩
end Go.Proofs.YtomepdgddpajoaaDoor
