/- For every input the law GeoBlocks answers true, and its arguments read behind the call as they read before. No condition. -/
import Derived.Test.YtophomnbclgjfaaGeoBlocksGoes
import Derived.Test.YtophomnbclgjfaaRecs
import Derived.ProofKit
import Derived.OpenShut
import Derived.ShutString
import Derived.ChangeOld
import Derived.Below
import Derived.Lib.SmallJoins
namespace Go.Proofs.Ytophomnbclgjfaa.geoBlocks
open Go.ChangeShapes Go.WideShapes Go.ChangeAt Go.RowKit
set_option linter.unusedVariables false

theorem own : ownKnob Try.prog.godebug = none := by kernel_rfl
theorem laidOut : laidOutB Try.prog = true := by kernel_rfl

set_option maxRecDepth 100000 in
theorem lifted (os : Os) (started : os.Started) (H : Type) (enc : TypeId × Value → H) :
    ReturnsInHanded {} Try.checked os 7 .any (Rows.geoBlocksSpec.pre6 enc Try.prog Try.f7 Rows.geoBlocksRow.domain false) (Rows.geoBlocksSpec.post enc Try.prog Try.f7 false true false false) := by
  refine returnsInHanded_of_change (C := Try.checked) own started (by kernel_rfl) Try.func7
    (ChangeSpec.witness6 (enc := enc) (C := Try.checked) false ⟨#[], #[.agg #[.int .u32 0, .int .u8 0, .int .u8 0, .int .u8 0]], []⟩ 8 (by kernel_rfl) (by kernel_rfl) (by kernel_rfl) (by kernel_rfl)) ?_
  intro W base args ds gs before hval0 hW hcnd _
  have hval : ∀ (j : Nat) t v, Try.f7.params[j]? = some t → args[j]? = some v → Value.okWide Try.prog W .any base t v := hval0
  have hW' := hW
  obtain ⟨p, q, hA0, hV, rfl, hfz, hnd⟩ := hW
  have hA : DataW.TrodAll enc Try.prog W 0 (fun _ => true) true Try.f7.params.toList args.toList ds p := hA0
  rw [Try.params7] at hA hval
  obtain ⟨v0, vs0, d0, ds0, p0, q0, hargs, rfl, rfl, h0, r0⟩ := trodAll_cons hA
  obtain ⟨rfl, rfl, rfl⟩ := trodAll_nil r0
  obtain rfl : args = #[v0] := by cases args; simp_all
  obtain ⟨rfl, rfl⟩ := trodVars_none hV
  have k0 := h0
  have lt0 : ∀ x ∈ p0, x.block < W.heap.size := by obtain ⟨m, hm⟩ := k0; exact DataW.trod_lt m _ _ _ hm
  obtain ⟨v0x0, v0x1, v0x2, v0x3, y0x0, y0x1, y0x2, y0x3, n0, e0, _, _, t0x0, t0x1, t0x2, t0x3⟩ := Joins.open_agg4 Try.underlying57 (by kernel_rfl) (by kernel_rfl) (hval 0 57 v0 rfl rfl) h0
  obtain ⟨a0x0, hc0x0, _, w0x0⟩ := DataW.trod_int Try.underlying51 t0x0
  obtain rfl : v0x0 = .int .u32 a0x0 := by simpa using hc0x0
  obtain ⟨a0x1, hc0x1, _, w0x1⟩ := DataW.trod_int Try.underlying5 t0x1
  obtain rfl : v0x1 = .int .u8 a0x1 := by simpa using hc0x1
  obtain ⟨a0x2, hc0x2, _, w0x2⟩ := DataW.trod_int Try.underlying5 t0x2
  obtain rfl : v0x2 = .int .u8 a0x2 := by simpa using hc0x2
  obtain ⟨a0x3, hc0x3, _, w0x3⟩ := DataW.trod_int Try.underlying5 t0x3
  obtain rfl : v0x3 = .int .u8 a0x3 := by simpa using hc0x3
  subst e0
  clear hA0 hval0
  refine (walk W a0x0 w0x0 a0x1 w0x1 a0x2 w0x2 a0x3 w0x3).mono fun e W' ⟨he, bel⟩ => ?_
  subst he
  exact ⟨_, rfl, _, _, _, [], _, [], hW', trodAll_mk1 (shut_bool Try.underlying4 _), (trodAll_cons_mk (Below.trod laidOut (by kernel_rfl) (of_decide_eq_true (by kernel_rfl)) k0 bel lt0) trodAll_mk0), rfl, bel.frame _, fun h => by cases h⟩

theorem over : Rows.geoBlocksRow.holds Try.pinned (OpenSpec.ofChange Rows.geoBlocksSpec) :=
  OpenClaim.holds_of_wide 7 Try.f7 rfl rfl rfl rfl rfl rfl rfl ⟨rfl, rfl, rfl, rfl, rfl⟩ rfl rfl rfl rfl rfl (by kernel_rfl) Try.func7 (by kernel_rfl)
    (of_decide_eq_true (by kernel_rfl)) (by unfold Func.isWrapper; first | (rw [if_pos (by decide +kernel)]; kernel_rfl) | (rw [if_neg (by decide +kernel)]; exact ⟨rfl, rfl⟩))
    (fun os started H enc _ => lifted os started H enc)

theorem proved : Rows.GeoBlocksSaid := over
#print axioms proved
end Go.Proofs.Ytophomnbclgjfaa.geoBlocks
