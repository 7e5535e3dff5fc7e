/- The laws' 'alive' of layer 3: it answers true, and makes blocks of its own alone. -/
import Derived.Test.YtfmbfonnabebmaaMark2
import Derived.Test.YtfmbfonnabebmaaMark4
import Derived.Below
namespace Go.Proofs.Ytfmbfonnabebmaa
open Go.RowKit
set_option linter.unusedVariables false

theorem below_false {w w' : World} {B : Nat} (h : Upd (fun _ => False) w w') (hB : B ≤ w.heap.size) : Below B w w' := h.below (fun k x => x.elim) hB
theorem below_one {w w' : World} {B g : Nat} (h : Upd (fun k => k = g) w w') (hB : B ≤ w.heap.size) (hg : B ≤ g) : Below B w w' := h.below (fun k x => by omega) hB
theorem below_drewN {B : Nat} {a w : World} (h : Below B a w) (n : Nat) : Below B a (w.drewN n) := h.trans ⟨rfl, rfl, rfl, Nat.le_refl _, fun _ _ => rfl⟩
theorem IsMarks.drewN {w : World} {p o g : Nat} {L : List Bool} (h : IsMarks w p o g L) (n : Nat) : IsMarks (w.drewN n) p o g L := ⟨h.head, h.row, h.ne, h.pos, h.big⟩
theorem IsMarks.drew {w : World} {p o g : Nat} {L : List Bool} (h : IsMarks w p o g L) : IsMarks w.drew p o g L := ⟨h.head, h.row, h.ne, h.pos, h.big⟩
/-- Behind a call that makes blocks of its own alone. -/
theorem IsMarks.grew {w w' : World} {p o g : Nat} {L : List Bool} (h : IsMarks w p o g L) (hb : Below w.heap.size w w') : IsMarks w' p o g L := h.below h.lt h.row.lt hb

theorem wf_small (n : Nat) (h : n ≤ 1000000) : (Lit.int .i64 (n : Int)).wf = true := I64.wf ⟨by omega, by omega⟩

set_option maxHeartbeats 400000 in
theorem alive_any (w : World) : Calls Try.prog 10 #[] w fun e w' => e = .returned (.bool true) ∧ Below w.heap.size w w' := by
  have e1 : takeL (MarkMath.rep 4 false) 2 = [true, true, false, false] ∧ takeA (MarkMath.rep 4 false) 2 = 0 ∧ takeE (MarkMath.rep 4 false) 2 = 0 := by decide
  have e2 : takeL [true, true, false, false] 1 = [true, true, true, false] ∧ takeA [true, true, false, false] 1 = 2 ∧ takeE [true, true, false, false] 1 = 0 := by decide
  have e3 : turnL false [true, true, true, false] 0 2 = [false, false, true, false] ∧ turnE false 5 [true, true, true, false] 0 2 = 0 := by decide
  have e4 : takeL [false, false, true, false] 1 = [true, false, true, false] ∧ takeA [false, false, true, false] 1 = 0 ∧ takeE [false, false, true, false] 1 = 0 := by decide
  have e5 : MarkMath.longest [true, false, true, false] = 1 ∧ MarkMath.left [true, false, true, false] = 2 := by decide
  have E1 := Lib.hid e1; have E2 := Lib.hid e2; have E3 := Lib.hid e3; have E4 := Lib.hid e4; have E5 := Lib.hid e5
  clear e1 e2 e3 e4 e5
  go_enter Try.func10, Try.ntmps10
  go_wp2_with fail
  refine (new_ok 4 (by decide) (by decide) _).mono ?_; rintro e w1 ⟨p, g, rfl, hm, hp, hg, hu⟩
  have B1 := Lib.hid (below_false hu (Nat.le_refl _)); have M1 := Lib.hid hm
  have s1 := B1.out.size
  clear hu hm
  go_wp2_with fail
  refine (take_any M1.out 2).mono ?_; rw [E1.out.1, E1.out.2.1, E1.out.2.2]; rintro e w2 ⟨rfl, hm, hu⟩
  have B2 := Lib.hid (B1.out.trans (below_one hu s1 hg)); have M2 := Lib.hid hm
  have s2 := B2.out.size
  clear hu hm
  go_wp2_with fail
  refine (take_any M2.out 1).mono ?_; rw [E2.out.1, E2.out.2.1, E2.out.2.2]; rintro e w3 ⟨rfl, hm, hu⟩
  have B3 := Lib.hid (B2.out.trans (below_one hu s2 hg)); have M3 := Lib.hid hm
  have s3 := B3.out.size
  clear hu hm
  go_wp2_with fail
  refine (free_any M3.out 0 2 (by decide) (by decide)).mono ?_; rw [E3.out.1, E3.out.2]; rintro e w4 ⟨rfl, hm, hu⟩
  have B4 := Lib.hid (B3.out.trans (below_one hu s3 hg)); have M4 := Lib.hid hm
  have s4 := B4.out.size
  clear hu hm
  go_wp2_with fail
  refine (take_any M4.out 1).mono ?_; rw [E4.out.1, E4.out.2.1, E4.out.2.2]; rintro e w5 ⟨rfl, hm, hu⟩
  have B5 := Lib.hid (B4.out.trans (below_one hu s4 hg)); have M5 := Lib.hid hm
  have s5 := B5.out.size
  clear hu hm
  go_wp2_with fail
  refine (take_nil _ 1).mono ?_; rintro e w6 ⟨rfl, hb⟩
  have B6 := Lib.hid (B5.out.trans (hb.mono s5)); have M6 := Lib.hid (M5.out.grew hb)
  have s6 := B6.out.size
  clear hb
  go_wp2_with fail
  refine (longest_any M6.out).mono ?_; rw [E5.out.1]; rintro e w7 ⟨rfl, hb⟩
  have B7 := Lib.hid (B6.out.trans (hb.mono s6)); have M7 := Lib.hid (M6.out.grew hb)
  have s7 := B7.out.size
  clear hb
  go_wp2_with fail
  refine (left_any M7.out).mono ?_; rw [E5.out.2]; rintro e w8 ⟨rfl, hb⟩
  have B8 := Lib.hid (B7.out.trans (hb.mono s7))
  clear hb
  go_wp2
  go_ret
  exact ⟨rfl, B8.out⟩
end Go.Proofs.Ytfmbfonnabebmaa
