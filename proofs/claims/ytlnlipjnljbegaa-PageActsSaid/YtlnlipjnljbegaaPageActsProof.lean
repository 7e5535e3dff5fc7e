/- For every input the law PageActs answers true, and its arguments read behind the call as they read before. No condition. -/
import Derived.Test.YtlnlipjnljbegaaPageActsGoes
import Derived.Test.YtlnlipjnljbegaaRecs
import Derived.ProofKit
import Derived.OpenShut
import Derived.ShutString
import Derived.ChangeOld
import Derived.Below
import Derived.Lib.SmallJoins
namespace Go.Proofs.Ytlnlipjnljbegaa.pageActs
open Go.ChangeShapes Go.WideShapes Go.ChangeAt Go.RowKit
set_option linter.unusedVariables false

theorem own : ownKnob Try.prog.godebug = none := by kernel_rfl
theorem laidOut : laidOutB Try.prog = true := by kernel_rfl

set_option maxRecDepth 100000 in
theorem lifted (os : Os) (started : os.Started) (H : Type) (enc : TypeId × Value → H) :
    ReturnsInHanded {} Try.checked os 3 .any (Rows.pageActsSpec.pre6 enc Try.prog Try.f3 Rows.pageActsRow.domain false) (Rows.pageActsSpec.post enc Try.prog Try.f3 false true false false) := by
  refine returnsInHanded_of_change (C := Try.checked) own started (by kernel_rfl) Try.func3
    (ChangeSpec.witness6 (enc := enc) (C := Try.checked) false ⟨#[], #[.agg #[.int .u64 0, .int .u64 0, .int .i64 0], .slice none 0 0], []⟩ 8 (by kernel_rfl) (by kernel_rfl) (by kernel_rfl) (by kernel_rfl)) ?_
  intro W base args ds gs before hval0 hW hcnd _
  have hval : ∀ (j : Nat) t v, Try.f3.params[j]? = some t → args[j]? = some v → Value.okWide Try.prog W .any base t v := hval0
  have hW' := hW
  obtain ⟨p, q, hA0, hV, rfl, hfz, hnd⟩ := hW
  have hA : DataW.TrodAll enc Try.prog W 0 (fun _ => true) true Try.f3.params.toList args.toList ds p := hA0
  rw [Try.params3] at hA hval
  obtain ⟨v0, vs0, d0, ds0, p0, q0, hargs, rfl, rfl, h0, r0⟩ := trodAll_cons hA
  obtain ⟨v1, vs1, d1, ds1, p1, q1, rfl, rfl, rfl, h1, r1⟩ := trodAll_cons r0
  obtain ⟨rfl, rfl, rfl⟩ := trodAll_nil r1
  obtain rfl : args = #[v0, v1] := by cases args; simp_all
  obtain ⟨rfl, rfl⟩ := trodVars_none hV
  have k0 := h0
  have lt0 : ∀ x ∈ p0, x.block < W.heap.size := by obtain ⟨m, hm⟩ := k0; exact DataW.trod_lt m _ _ _ hm
  obtain ⟨v0x0, v0x1, v0x2, y0x0, y0x1, y0x2, n0, e0, _, _, t0x0, t0x1, t0x2⟩ := Joins.open_agg3 Try.underlying24 (by kernel_rfl) (by kernel_rfl) (hval 0 24 v0 rfl rfl) h0
  obtain ⟨a0x0, hc0x0, _, w0x0⟩ := DataW.trod_int Try.underlying22 t0x0
  obtain rfl : v0x0 = .int .u64 a0x0 := by simpa using hc0x0
  obtain ⟨a0x1, hc0x1, _, w0x1⟩ := DataW.trod_int Try.underlying22 t0x1
  obtain rfl : v0x1 = .int .u64 a0x1 := by simpa using hc0x1
  obtain ⟨a0x2, hc0x2, _, w0x2⟩ := DataW.trod_int Try.underlying3 t0x2
  obtain rfl : v0x2 = .int .i64 a0x2 := by simpa using hc0x2
  subst e0
  have k1 := h1
  have lt1 : ∀ x ∈ p1, x.block < W.heap.size := by obtain ⟨m, hm⟩ := k1; exact DataW.trod_lt m _ _ _ hm
  obtain ⟨aa1, ln1, cp1, ev1⟩ := okWide_slice Try.underlying25 (hval 1 25 v1 rfl rfl)
  obtain ⟨fuel1, hf1⟩ := h1
  have hs1 : v1.cells.toList = [v1] := by rw [ev1]; rfl
  rw [hs1] at hf1
  obtain ⟨a1, n1, cap1, len1, F1, e1, w1⟩ : ∃ a n c len F, v1 = .slice a n c ∧ Recs W (.slice a n c) [.num .i64, .num .i64, .num .u64] len F := by
    obtain ⟨a, len, c, F, hcs, hr⟩ := open_recs 4 Try.underlying25 (show leaves Try.prog 4 42 = some [.num .i64, .num .i64, .num .u64] by kernel_rfl) (by kernel_rfl) (by decide) hf1
    exact ⟨a, len, c, len, F, by simpa using hcs, hr⟩
  subst e1
  clear hA0 hval0
  refine (walk W a0x0 w0x0 a0x1 w0x1 a0x2 w0x2 len1 F1 w1).mono fun e W' ⟨he, bel⟩ => ?_
  subst he
  exact ⟨_, rfl, _, _, _, [], _, [], hW', trodAll_mk1 (shut_bool Try.underlying4 _), (trodAll_cons_mk (Below.trod laidOut (by kernel_rfl) (of_decide_eq_true (by kernel_rfl)) k0 bel lt0) (trodAll_cons_mk (Below.trod laidOut (by kernel_rfl) (of_decide_eq_true (by kernel_rfl)) k1 bel lt1) trodAll_mk0)), rfl, bel.frame _, fun h => by cases h⟩

theorem over : Rows.pageActsRow.holds Try.pinned (OpenSpec.ofChange Rows.pageActsSpec) :=
  OpenClaim.holds_of_wide 3 Try.f3 rfl rfl rfl rfl rfl rfl rfl ⟨rfl, rfl, rfl, rfl, rfl⟩ rfl rfl rfl rfl rfl (by kernel_rfl) Try.func3 (by kernel_rfl)
    (of_decide_eq_true (by kernel_rfl)) (by unfold Func.isWrapper; first | (rw [if_pos (by decide +kernel)]; kernel_rfl) | (rw [if_neg (by decide +kernel)]; exact ⟨rfl, rfl⟩))
    (fun os started H enc _ => lifted os started H enc)

theorem proved : Rows.PageActsSaid := over
#print axioms proved
end Go.Proofs.Ytlnlipjnljbegaa.pageActs
