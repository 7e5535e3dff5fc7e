/- For every input the law LedgerSums answers true, and its arguments read behind the call as they read before. No condition. -/
import Derived.Test.YtklblmodpkhjnaaLedgerSumsWalk
import Derived.Test.YtklblmodpkhjnaaRecs
import Derived.ProofKit
import Derived.OpenShut
import Derived.ShutString
import Derived.ChangeOld
import Derived.Below
import Derived.Lib.SmallJoins
namespace Go.Proofs.Ytklblmodpkhjnaa.ledgerSums
open Go.ChangeShapes Go.WideShapes Go.ChangeAt Go.RowKit
set_option linter.unusedVariables false

theorem own : ownKnob Try.prog.godebug = none := by kernel_rfl
theorem laidOut : laidOutB Try.prog = true := by kernel_rfl

set_option maxRecDepth 100000 in
theorem lifted (os : Os) (started : os.Started) (H : Type) (enc : TypeId × Value → H) :
    ReturnsInHanded {} Try.checked os 7 .any (Rows.ledgerSumsSpec.pre6 enc Try.prog Try.f7 Rows.ledgerSumsRow.domain false) (Rows.ledgerSumsSpec.post enc Try.prog Try.f7 false true false false) := by
  refine returnsInHanded_of_change (C := Try.checked) own started (by kernel_rfl) Try.func7
    (ChangeSpec.witness6 (enc := enc) (C := Try.checked) false ⟨#[], #[.slice none 0 0, .agg #[.int .u64 0, .int .u64 0, .int .u64 0]], []⟩ 8 (by kernel_rfl) (by kernel_rfl) (by kernel_rfl) (by kernel_rfl)) ?_
  intro W base args ds gs before hval0 hW hcnd _
  have hval : ∀ (j : Nat) t v, Try.f7.params[j]? = some t → args[j]? = some v → Value.okWide Try.prog W .any base t v := hval0
  have hW' := hW
  obtain ⟨p, q, hA0, hV, rfl, hfz, hnd⟩ := hW
  have hA : DataW.TrodAll enc Try.prog W 0 (fun _ => true) true Try.f7.params.toList args.toList ds p := hA0
  rw [Try.params7] at hA hval
  obtain ⟨v0, vs0, d0, ds0, p0, q0, hargs, rfl, rfl, h0, r0⟩ := trodAll_cons hA
  obtain ⟨v1, vs1, d1, ds1, p1, q1, rfl, rfl, rfl, h1, r1⟩ := trodAll_cons r0
  obtain ⟨rfl, rfl, rfl⟩ := trodAll_nil r1
  obtain rfl : args = #[v0, v1] := by cases args; simp_all
  obtain ⟨rfl, rfl⟩ := trodVars_none hV
  have k0 := h0
  have lt0 : ∀ x ∈ p0, x.block < W.heap.size := by obtain ⟨m, hm⟩ := k0; exact DataW.trod_lt m _ _ _ hm
  obtain ⟨aa0, ln0, cp0, ev0⟩ := okWide_slice Try.underlying22 (hval 0 22 v0 rfl rfl)
  obtain ⟨fuel0, hf0⟩ := h0
  have hs0 : v0.cells.toList = [v0] := by rw [ev0]; rfl
  rw [hs0] at hf0
  obtain ⟨a0, n0, cap0, len0, F0, e0, w0⟩ : ∃ a n c len F, v0 = .slice a n c ∧ Recs W (.slice a n c) [.num .i64, .num .u64, .num .u64, .num .u64, .nums .u64] len F := by
    obtain ⟨a, len, c, F, hcs, hr⟩ := open_recs 4 Try.underlying22 (show leaves Try.prog 4 38 = some [.num .i64, .num .u64, .num .u64, .num .u64, .nums .u64] by kernel_rfl) (by kernel_rfl) (by decide) hf0
    exact ⟨a, len, c, len, F, by simpa using hcs, hr⟩
  subst e0
  have k1 := h1
  have lt1 : ∀ x ∈ p1, x.block < W.heap.size := by obtain ⟨m, hm⟩ := k1; exact DataW.trod_lt m _ _ _ hm
  obtain ⟨v1x0, v1x1, v1x2, y1x0, y1x1, y1x2, n1, e1, _, _, t1x0, t1x1, t1x2⟩ := Joins.open_agg3 Try.underlying35 (by kernel_rfl) (by kernel_rfl) (hval 1 35 v1 rfl rfl) h1
  obtain ⟨a1x0, hc1x0, _, w1x0⟩ := DataW.trod_int Try.underlying33 t1x0
  obtain rfl : v1x0 = .int .u64 a1x0 := by simpa using hc1x0
  obtain ⟨a1x1, hc1x1, _, w1x1⟩ := DataW.trod_int Try.underlying33 t1x1
  obtain rfl : v1x1 = .int .u64 a1x1 := by simpa using hc1x1
  obtain ⟨a1x2, hc1x2, _, w1x2⟩ := DataW.trod_int Try.underlying33 t1x2
  obtain rfl : v1x2 = .int .u64 a1x2 := by simpa using hc1x2
  subst e1
  clear hA0 hval0
  refine (walk W len0 F0 w0 a1x0 w1x0 a1x1 w1x1 a1x2 w1x2).mono fun e W' ⟨he, bel⟩ => ?_
  subst he
  exact ⟨_, rfl, _, _, _, [], _, [], hW', trodAll_mk1 (shut_bool Try.underlying4 _), (trodAll_cons_mk (Below.trod laidOut (by kernel_rfl) (of_decide_eq_true (by kernel_rfl)) k0 bel lt0) (trodAll_cons_mk (Below.trod laidOut (by kernel_rfl) (of_decide_eq_true (by kernel_rfl)) k1 bel lt1) trodAll_mk0)), rfl, bel.frame _, fun h => by cases h⟩

theorem over : Rows.ledgerSumsRow.holds Try.pinned (OpenSpec.ofChange Rows.ledgerSumsSpec) :=
  OpenClaim.holds_of_wide 7 Try.f7 rfl rfl rfl rfl rfl rfl rfl ⟨rfl, rfl, rfl, rfl, rfl⟩ rfl rfl rfl rfl rfl (by kernel_rfl) Try.func7 (by kernel_rfl)
    (of_decide_eq_true (by kernel_rfl)) (by unfold Func.isWrapper; first | (rw [if_pos (by decide +kernel)]; kernel_rfl) | (rw [if_neg (by decide +kernel)]; exact ⟨rfl, rfl⟩))
    (fun os started H enc _ => lifted os started H enc)

theorem proved : Rows.LedgerSumsSaid := over
#print axioms proved
end Go.Proofs.Ytklblmodpkhjnaa.ledgerSums
