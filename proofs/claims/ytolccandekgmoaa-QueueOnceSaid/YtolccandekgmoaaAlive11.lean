/- The laws' 'alive' and 'great' of layer 11. -/
import Derived.Test.YtolccandekgmoaaQueueCl
import Derived.Test.YtolccandekgmoaaSame11
namespace Go.Proofs.Ytolccandekgmoaa
open Go.RowKit QueueMath
set_option linter.unusedVariables false

theorem i64_1 : I64 1 := ⟨by decide, by decide⟩
theorem alive_small : pushE q0 [1, 2, 3] = (⟨[1, 2, 3], []⟩, 0) ∧ fillE ⟨[1, 2, 3], []⟩ 1 = (⟨[2, 3], [1]⟩, 0) ∧ pushE ⟨[2, 3], [1]⟩ [4] = (⟨[2, 3, 4], [1]⟩, 0) ∧ wakeE ⟨[2, 3, 4], [1]⟩ 1 = (⟨[2, 3, 4, 1], []⟩, 0) := by decide
set_option maxRecDepth 100000 in
set_option maxHeartbeats 2000000 in
theorem alive_any (w : World) (C : QuC w) : Calls Try.prog 9 #[] w fun e w' => e = .returned (.bool true) ∧ Below w.heap.size w w' := by
  obtain ⟨a1, a2, a3, a4⟩ := alive_small
  have h0 : OQ C w.heap.size _ q0 _ := oq_new (Below.refl _ w)
  have k1 := oq_push (h0.alloc (.cells #[.int .i64 1, .int .i64 2, .int .i64 3] 3)) (Arr.made (w.alloc (.cells zeroQ 28)) 3 [1, 2, 3] #[.int .i64 1, .int .i64 2, .int .i64 3] rfl 3 (w.heap.size + 1) rfl (by simp) (by decide) (by unfold I64; decide)) (.inr fun k hk hO => by have e := in_blk hk; omega) (by decide)
  rw [a1] at k1
  have K1 := Lib.hid k1
  have A2 := Lib.hid a2; have A3 := Lib.hid a3; have A4 := Lib.hid a4
  clear h0 k1 a1 a2 a3 a4
  go_enter Try.func9, Try.ntmps9
  go_wp2_with fail
  refine K1.out.mono ?_; rintro e w1 ⟨rfl, O1, hh, _, _⟩
  have k2 := oq_fill hh (x := 1) i64_1 (by decide)
  rw [A2.out] at k2
  have K2 := Lib.hid k2
  clear hh k2
  go_wp2_with fail
  refine K2.out.mono ?_; rintro e w2 ⟨rfl, O2, hh, _, _⟩
  have k3 := oq_push (hh.alloc (.cells #[.int .i64 4] 3)) (Arr.made w2 3 [4] #[.int .i64 4] rfl 1 w2.heap.size rfl rfl (by decide) (by unfold I64; decide)) (.inr fun k hk hO => by have e := in_blk hk; have := hh.lt hO; omega) (by decide)
  rw [A3.out] at k3
  have K3 := Lib.hid k3
  clear hh k3
  go_wp2_with fail
  refine K3.out.mono ?_; rintro e w3 ⟨rfl, O3, hh, _, _⟩
  have k4 := oq_wake hh (x := 1) i64_1 (by decide)
  rw [A4.out] at k4
  have K4 := Lib.hid k4
  clear hh k4
  go_wp2_with fail
  refine K4.out.mono ?_; rintro e w4 ⟨rfl, O4, hh, _, _⟩
  have H4 := Lib.hid hh
  have k5 := oq_ready hh (by decide)
  have K5 := Lib.hid k5
  clear hh k5
  go_wp2_with fail
  refine K5.out.mono ?_; rintro e w5 ⟨ar, cr, rfl, hv, h1, h2, _, hb⟩
  have h5 := H4.out.grew hb
  have H5 := Lib.hid (h5.alloc (.cells #[.int .i64 2, .int .i64 3, .int .i64 4, .int .i64 1] 3))
  have hs := same11_any _ (hv.seq.alloc (.cells #[.int .i64 2, .int .i64 3, .int .i64 4, .int .i64 1] 3)) (Arr.made w5 3 [2, 3, 4, 1] #[.int .i64 2, .int .i64 3, .int .i64 4, .int .i64 1] rfl 4 w5.heap.size rfl rfl (by decide) (by unfold I64; decide)).seq (by decide) (by decide)
  have HS := Lib.hid hs
  clear hv hb h5 hs
  go_wp2_with fail
  refine HS.out.mono ?_; rintro e w6 ⟨rfl, hb⟩
  have H6 := Lib.hid (H5.out.grew hb)
  have K6 := Lib.hid (oq_full H6.out (by decide))
  clear hb
  go_wp2_with fail
  refine K6.out.mono ?_; rintro e w7 ⟨af, cf, rfl, _, _, _, _, hb⟩
  have H7 := Lib.hid (H6.out.grew hb)
  have K7 := Lib.hid (C.push_nil w7 H7.out.below)
  clear hb
  go_wp2_with fail
  refine K7.out.mono ?_; rintro e w8 ⟨rfl, hb⟩
  have H8 := Lib.hid (H7.out.grew hb)
  clear hb
  go_wp2
  go_ret
  exact ⟨rfl, H8.out.below⟩
end Go.Proofs.Ytolccandekgmoaa
