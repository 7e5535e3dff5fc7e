/- The document's own runs (allotmentref06): Meet: contract. -/
import Derived.Test.YtophomnbclgjfaaRefG3
import Derived.Test.YtophomnbclgjfaaQuiet
namespace Go.Proofs.Ytophomnbclgjfaa
open Go.RowKit GeoMath
set_option linter.unusedVariables false

/-- Two runs in two blocks. -/
structure TwoRuns (w : World) (ba bb : Nat) (t u : TypeId) (x y : Rn) (w' : World) : Prop where
  A : Blk w' ba t (runC x.1 x.2.1 x.2.2)
  B : Blk w' bb u (runC y.1 y.2.1 y.2.2)
  below : Below w.heap.size w w'
theorem TwoRuns.grew {w w' w2 : World} {ba bb : Nat} {t u : TypeId} {x y : Rn} (h : TwoRuns w ba bb t u x y w') (hb : Below w'.heap.size w' w2) : TwoRuns w ba bb t u x y w2 :=
  ⟨h.A.grew hb, h.B.grew hb, below_then h.below h.below.size hb⟩
theorem TwoRuns.drew {w w' : World} {ba bb : Nat} {t u : TypeId} {x y : Rn} (h : TwoRuns w ba bb t u x y w') : TwoRuns w ba bb t u x y w'.drew := ⟨h.A, h.B, h.below.drew⟩
theorem TwoRuns.alloc {w w' : World} {ba bb : Nat} {t u : TypeId} {x y : Rn} (h : TwoRuns w ba bb t u x y w') (o : Obj) : TwoRuns w ba bb t u x y (w'.alloc o) := ⟨h.A.alloc o, h.B.alloc o, h.below.alloc h.below.size o⟩
def Cells6 (w' : World) (ba bb f1 s1 f2 s2 : Nat) (n1 n2 : Int) : Prop := w'.cell? ⟨ba, 0, none⟩ = some (.int .u64 (f1 : Int)) ∧ w'.cell? ⟨ba, 1, none⟩ = some (.int .u64 (s1 : Int)) ∧ w'.cell? ⟨ba, 2, none⟩ = some (.int .i64 n1) ∧ w'.cell? ⟨bb, 0, none⟩ = some (.int .u64 (f2 : Int)) ∧ w'.cell? ⟨bb, 1, none⟩ = some (.int .u64 (s2 : Int)) ∧ w'.cell? ⟨bb, 2, none⟩ = some (.int .i64 n2)
theorem TwoRuns.cells {w w' : World} {ba bb : Nat} {t u : TypeId} {f1 s1 f2 s2 : Nat} {n1 n2 : Int} (h : TwoRuns w ba bb t u (f1, s1, n1) (f2, s2, n2) w') : Cells6 w' ba bb f1 s1 f2 s2 n1 n2 :=
  ⟨h.A.cell 0, h.A.cell 1, h.A.cell 2, h.B.cell 0, h.B.cell 1, h.B.cell 2⟩
theorem two_boxed (w : World) (f1 s1 f2 s2 : Nat) (n1 n2 : Int) {W : World} (hW : (w.alloc (.cells #[.int .u64 (f1 : Int), .int .u64 (s1 : Int), .int .i64 n1] 37)).alloc (.cells #[.int .u64 (f2 : Int), .int .u64 (s2 : Int), .int .i64 n2] 37) = W) : TwoRuns w w.heap.size (w.heap.size + 1) 37 37 (f1, s1, n1) (f2, s2, n2) W := by
  subst hW
  refine ⟨(Blk.new w _ _).alloc _, ?_, below_alloc2 (Below.refl _ w) (Nat.le_refl _) _ _⟩
  have := Blk.new (w.alloc (.cells #[.int .u64 (f1 : Int), .int .u64 (s1 : Int), .int .i64 n1] 37)) 37 (runC f2 s2 n2)
  rw [show (w.alloc (.cells #[.int .u64 (f1 : Int), .int .u64 (s1 : Int), .int .i64 n1] 37)).heap.size = w.heap.size + 1 by simp] at this
  exact this
set_option maxRecDepth 100000 in
set_option maxHeartbeats 2000000 in
theorem ref_meet (w : World) (f1 s1 f2 s2 : Nat) (n1 n2 : Int) (h1 : RnB (f1, s1, n1)) (h2 : RnB (f2, s2, n2)) : Calls Try.prog 24 #[runV f1 s1 n1, runV f2 s2 n2] w fun e w' => e = .returned (.bool (meet2 (f1, s1, n1) (f2, s2, n2))) ∧ Below w.heap.size w w' := by
  obtain ⟨hf1, hs1, hn1⟩ := h1
  obtain ⟨hf2, hs2, hn2⟩ := h2
  have HM1 := Lib.hid (fun w => ref_may w f1 s1 n1 hf1 hs1 hn1)
  have HM2 := Lib.hid (fun w => ref_may w f2 s2 n2 hf2 hs2 hn2)
  have HE1 := Lib.hid (fun w => ref_end w f1 s1 n1 hf1 hs1 hn1)
  have HE2 := Lib.hid (fun w => ref_end w f2 s2 n2 hf2 hs2 hn2)
  unfold meet2
  simp only [] at hf1 hs1 hn1 hf2 hs2 hn2 ⊢
  obtain ⟨n11, n12⟩ := hn1
  obtain ⟨n21, n22⟩ := hn2
  obtain ⟨m1, hm1⟩ : ∃ b, mayN f1 s1 n1 = b := ⟨_, rfl⟩
  obtain ⟨m2, hm2⟩ : ∃ b, mayN f2 s2 n2 = b := ⟨_, rfl⟩
  obtain ⟨E1, hE1⟩ : ∃ b, endN f1 s1 n1 = b := ⟨_, rfl⟩
  obtain ⟨E2, hE2⟩ : ∃ b, endN f2 s2 n2 = b := ⟨_, rfl⟩
  rw [hm1] at HM1; rw [hm2] at HM2; rw [hE1] at HE1; rw [hE2] at HE2
  rw [hm1, hm2, hE1, hE2]
  obtain ⟨b3, hb3⟩ : ∃ b, decide (0 < n1) = b := ⟨_, rfl⟩
  obtain ⟨b4, hb4⟩ : ∃ b, decide (0 < n2) = b := ⟨_, rfl⟩
  obtain ⟨b5, hb5⟩ : ∃ b, decide (f1 < E2) = b := ⟨_, rfl⟩
  obtain ⟨b6, hb6⟩ : ∃ b, decide (f2 < E1) = b := ⟨_, rfl⟩
  rw [hb3, hb4, hb5, hb6]
  clear hm1 hm2 hE1 hE2
  unfold runV at HM1 HM2 HE1 HE2 ⊢
  have hc : (m1 = false) ∨ (m1 = true ∧ m2 = false) ∨ (m1 = true ∧ m2 = true ∧ b3 = false) ∨ (m1 = true ∧ m2 = true ∧ b3 = true ∧ b4 = false) ∨ (m1 = true ∧ m2 = true ∧ b3 = true ∧ b4 = true ∧ b5 = false) ∨ (m1 = true ∧ m2 = true ∧ b3 = true ∧ b4 = true ∧ b5 = true) := by
    cases m1 <;> cases m2 <;> cases b3 <;> cases b4 <;> cases b5 <;> simp
  rcases hc with rfl | ⟨rfl, rfl⟩ | ⟨rfl, rfl, rfl⟩ | ⟨rfl, rfl, rfl, rfl⟩ | ⟨rfl, rfl, rfl, rfl, rfl⟩ | ⟨rfl, rfl, rfl, rfl, rfl⟩
  all_goals
    go_enter Try.func24, Try.ntmps24
    go_wp2_with fail
    generalize hW : (w.alloc (.cells #[.int .u64 (f1 : Int), .int .u64 (s1 : Int), .int .i64 n1] 37)).alloc (.cells #[.int .u64 (f2 : Int), .int .u64 (s2 : Int), .int .i64 n2] 37) = W
    have ST := two_boxed w f1 s1 f2 s2 n1 n2 hW
    obtain ⟨bb, hbb⟩ : ∃ bb, w.heap.size + 1 = bb := ⟨_, rfl⟩
    rw [hbb] at ST ⊢
    obtain ⟨d0, d1, d2, d3, d4, d5⟩ := ST.cells
    have ST := Lib.hid ST
    clear hW hbb
    obtain ⟨E, WW, x0, hx0, hE, hS⟩ := classOf _ ST.out.drew
    have c0 : ∀ x, (WW x).cell? ⟨w.heap.size, 0, none⟩ = some (.int .u64 (f1 : Int)) := fun x => (hS x).cells.1
    have c1 : ∀ x, (WW x).cell? ⟨w.heap.size, 1, none⟩ = some (.int .u64 (s1 : Int)) := fun x => (hS x).cells.2.1
    have c2 : ∀ x, (WW x).cell? ⟨w.heap.size, 2, none⟩ = some (.int .i64 n1) := fun x => (hS x).cells.2.2.1
    have c3 : ∀ x, (WW x).cell? ⟨bb, 0, none⟩ = some (.int .u64 (f2 : Int)) := fun x => (hS x).cells.2.2.2.1
    have c4 : ∀ x, (WW x).cell? ⟨bb, 1, none⟩ = some (.int .u64 (s2 : Int)) := fun x => (hS x).cells.2.2.2.2.1
    have c5 : ∀ x, (WW x).cell? ⟨bb, 2, none⟩ = some (.int .i64 n2) := fun x => (hS x).cells.2.2.2.2.2
    have hne : Nonempty E := ⟨x0⟩
    have HS := Lib.hid hS; have HEE := Lib.hid hE
    clear hS hE d0 d1 d2 d3 d4 d5 ST
    refine wp_region_quiet_of WW x0 hx0 (by kernel_rfl) (by kernel_rfl) ?_
    repeat (go_big_quiet_step (first
      | (go_at_call_of 23 f1; refine (HM1.out _).mono ?_; rintro e w5 ⟨rfl, hb⟩; exact ⟨rfl, HEE.out _ ((HS.out _).grew hb)⟩)
      | (go_at_call_of 23 f2; refine (HM2.out _).mono ?_; rintro e w5 ⟨rfl, hb⟩; exact ⟨rfl, HEE.out _ ((HS.out _).grew hb)⟩)
      | (go_at_call_of 22 f2; refine (HE2.out _).mono ?_; rintro e w5 ⟨rfl, hb⟩; exact ⟨rfl, HEE.out _ ((HS.out _).grew hb)⟩)
      | (go_at_call_of 22 f1; refine (HE1.out _).mono ?_; rintro e w5 ⟨rfl, hb⟩; exact ⟨rfl, HEE.out _ ((HS.out _).grew hb)⟩)))
    refine wpQuiet_nil ?_
    rintro _ ⟨nq, rfl⟩
    go_wp2
    go_ret
    exact ⟨rfl, (HS.out nq).below⟩
end Go.Proofs.Ytophomnbclgjfaa
