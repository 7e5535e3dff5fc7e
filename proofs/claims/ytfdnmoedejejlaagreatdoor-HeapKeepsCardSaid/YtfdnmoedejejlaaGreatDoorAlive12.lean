/- The laws' 'alive' of layer 12. -/
import Derived.Test.YtfdnmoedejejlaaGreatDoorMade12
import Derived.Test.YtfdnmoedejejlaaGreatDoorFo
namespace Go.Proofs.YtfdnmoedejejlaaGreatDoor
open Go.RowKit ListMath PageMath GeoMath SegMath ClassMath HeapMath QueueMath ArenaMath
set_option linter.unusedVariables false
set_option maxRecDepth 100000

theorem low_first : MarkMath.low newK 1 = some 1 := by decide
theorem alive_grow : growH h0 ⟨4, 4, [], [], 0⟩ 7 = (⟨[ownedSG 7 0], fun _ => q0⟩, 0, ⟨4, 4, [(0, 1)], [], 0⟩) := by rfl
theorem alive_room (Q : Nat → QR) : roomH ⟨[ownedSG 7 0], Q⟩ (wdOf 0 1) = some (ownedSG 7 0, 1) := by rfl
def aliveP : PG := ⟨1024, 16, 64, 4, 1, [1040, 1056, 1072], [], 0, 0, 0⟩
def aliveX (op pp : Nat) (P : PG) : SG := ⟨0, MarkMath.setAt newK 1 1 true, [⟨op, pp, 0, 1, 1, P⟩], 7, 1, 1⟩
theorem alive_put (op pp : Nat) (P S : PG) : (aliveX op pp P).put pp S = aliveX op pp S := by unfold SG.put aliveX; simp
theorem alive_find (op pp : Nat) (Q : Nat → QR) : findH ⟨[aliveX op pp aliveP], Q⟩ 1024 = some (aliveX op pp aliveP, ⟨op, pp, 0, 1, 1, aliveP⟩) := by simp [findH, findO, inS, aliveX]
theorem alive_fresh (op pp : Nat) : freshX (ownedSG 7 0) op pp 0 1 1 = aliveX op pp aliveP := by
  have e : (ownedSG 7 0).add op pp 0 1 (wdOf 0 1) (nOf 0) (szOf 0 1) = aliveX op pp (newPG 1024 16 64) := by rfl
  unfold freshX
  rw [e]
  rw [alive_put]; rfl
/-- Fresh of class 0 in the first segment, and its block back: nothing is left. -/
theorem alive_back {H' : HS} {x : Nat} (h : Freshed ⟨[ownedSG 7 0], fun _ => q0⟩ 0 1 x H') : x = 1024 ∧ H'.B.length = 1 ∧ (freeH H' ⟨4, 4, [(0, 1)], [], 0⟩ 1024).1.1.B = [] ∧ total (freeH H' ⟨4, 4, [(0, 1)], [], 0⟩ 1024).1.2.l = 0 := by
  obtain ⟨X, a, op, pp, hr, _, hx, rfl⟩ := h
  have e := (alive_room fun _ => q0).symm.trans hr
  cases e
  refine ⟨by rw [hx]; rfl, rfl, ?_⟩
  obtain ⟨Q', hQ⟩ : ∃ Q', freshH ⟨[ownedSG 7 0], fun _ => q0⟩ (ownedSG 7 0) op pp 0 (Int.toNat 1) 1 = ⟨[aliveX op pp aliveP], Q'⟩ := ⟨_, by
    show HS.mk [freshX (ownedSG 7 0) op pp 0 1 1] _ = _
    rw [alive_fresh]⟩
  rw [hQ]
  have hf := alive_find op pp Q'
  have hp := alive_put op pp aliveP (free1 aliveP 1024).1
  unfold freeH
  rw [hf]
  simp only []
  rw [if_neg (by decide), hp]
  exact ⟨rfl, rfl⟩
theorem alive_plan : plV (forN 1 1).1 = .agg #[.int .i64 0, .int .i64 1, .int .i64 0, .int .u64 16] ∧ (forN 1 1).2 = 0 := by
  have e : forN 1 1 = (⟨0, 1, 0, 16⟩, 0) := by rfl
  rw [e]; exact ⟨rfl, rfl⟩
set_option maxHeartbeats 1000000 in
theorem alive_h (w : World) {C : SgC w} (K : HpC w C) (F : Fo w) : Calls Tryz.prog 9 #[] w fun e w' => e = .returned (.bool true) ∧ Below w.heap.size w w' := by
  have HP := Lib.hid alive_plan
  have HG := Lib.hid alive_grow
  have HF := Lib.hid (F.for_ 1 1 (by decide) (by decide))
  go_enter Tryz.func9, Tryz.ntmps9
  go_wp2_with fail
  refine (made_any (K := K) (Below.refl _ _) (segs := 4) (lim := 4) (by decide) (by decide) (by decide)).mono ?_; rintro e w1 ⟨h, p, g, q, rfl, z⟩
  have Z1 := Lib.hid z; clear z
  go_wp2_with fail
  refine (oh_grow Z1.out (by decide)).mono ?_; rw [HG.out]; rintro e w2 ⟨rfl, z, _⟩
  have Z2 := Lib.hid z; clear z
  go_wp2_with fail
  refine (HF.out w2 Z2.out.below).mono ?_; rw [HP.out.1, HP.out.2]; rintro e w3 ⟨rfl, hb⟩
  have Z3 := Lib.hid (Z2.out.grew hb); clear hb
  go_wp2_with fail
  refine (oh_fresh (c := 0) (sl := 1) (sg := 0) (us := 16) (Z3.out.alloc _) ⟨by decide, by decide⟩ ⟨by decide, by decide⟩ ⟨by decide, by decide⟩ (by decide)).mono ?_; rintro e w4 ⟨x, er, H', rfl, hx⟩
  obtain ⟨rfl, z, rfl, h1, h2, h3⟩ : er = 0 ∧ OH C K h 7 p g q H' ⟨4, 4, [(0, 1)], [], 0⟩ (4 * 16384) [1024] (fun _ => False) w4 ∧ x = 1024 ∧ H'.B.length = 1 ∧ (freeH H' ⟨4, 4, [(0, 1)], [], 0⟩ 1024).1.1.B = [] ∧ total (freeH H' ⟨4, 4, [(0, 1)], [], 0⟩ 1024).1.2.l = 0 := by
    rcases hx with ⟨k1, _, _, ⟨k2, _⟩, k3, _⟩ | ⟨_, _, _, _, k | k⟩
    · have k4 := alive_back k3
      obtain ⟨rfl, k4⟩ := k4
      exact ⟨k1, k2, rfl, k4⟩
    · exact absurd k (by decide)
    · exact absurd ((alive_room fun _ => q0).symm.trans k) (by simp)
  have Z4 := Lib.hid z
  have E1 := Lib.hid h1; have E2 := Lib.hid h2; have E3 := Lib.hid h3
  clear z hx h1 h2 h3
  go_wp2_with fail
  refine (oh_segs Z4.out).mono ?_; rintro e w5 ⟨a1, k1, cap1, S1, rfl, hs, hl, hc1, hc2, _, hb⟩
  have Z5 := Lib.hid (Z4.out.grew hb)
  obtain rfl : k1 = 1 := by rw [hs.len, hl, E1.out]
  clear hs hl hb
  go_wp2_with fail
  refine (oh_free (x := 1024) (U' := []) Z5.out (List.Perm.refl _) (by decide)).mono ?_; rintro e w6 ⟨rfl, z, _⟩
  have Z6 := Lib.hid z; clear z
  go_wp2_with fail
  refine (oh_segs Z6.out).mono ?_; rintro e w7 ⟨a2, k2, cap2, S2, rfl, hs, hl, hd1, hd2, _, hb⟩
  have Z7 := Lib.hid (Z6.out.grew hb)
  obtain rfl : k2 = 0 := by rw [hs.len, hl, E2.out]; rfl
  clear hs hl hb
  go_wp2_with fail
  refine (oh_given Z7.out).mono ?_; rw [E3.out]; rintro e w8 ⟨rfl, hb⟩
  have Z8 := Lib.hid (Z7.out.grew hb); clear hb
  go_wp2_with fail
  refine (K.grow_nil w8 Z8.out.below).mono ?_; rintro e w9 ⟨rfl, hb⟩
  have B9 := Lib.hid (below_then Z8.out.below Z8.out.below.size hb); clear hb
  go_wp2
  go_ret
  exact ⟨rfl, B9.out⟩
end Go.Proofs.YtfdnmoedejejlaaGreatDoor
