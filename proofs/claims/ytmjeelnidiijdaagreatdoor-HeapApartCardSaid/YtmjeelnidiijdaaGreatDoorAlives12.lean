/- Alives12: texts of layers below, joined (Made12 Alive12). -/
import Derived.Test.YtmjeelnidiijdaaGreatDoorHeapOs
import Derived.Test.YtmjeelnidiijdaaGreatDoorFo
/- The laws' 'made' of layer 12: a memory, an arena, a heap over them. -/
namespace Go.Proofs.YtmjeelnidiijdaaGreatDoor
open Go.RowKit ListMath PageMath GeoMath SegMath ClassMath HeapMath QueueMath ArenaMath
set_option linter.unusedVariables false
set_option maxRecDepth 100000

section
variable {w0 w : World} {C : SgC w0} {K : HpC w0 C}
theorem OH.first {w1 w2 w3 : World} {h id p g q N segs lim : Nat} {O own : Nat → Prop} {L : List Nat} (hb : Below w0.heap.size w0 w) (hm : IsMem w1 p g L) (hl : L.length = N) (hN : segs * 16384 = N) (hp : w.heap.size ≤ p) (hg : w.heap.size ≤ g) (b1 : Below w.heap.size w w1)
    (ha : IsArena w2 q own ⟨segs, lim, [], [], 0⟩) (ho : ∀ k, own k → w1.heap.size ≤ k) (b2 : Below w1.heap.size w1 w2) (hh : K.Hp w3 h O id p q [] (fun _ => q0)) (hO : ∀ k, O k → w2.heap.size ≤ k) (b3 : Below w2.heap.size w2 w3) : OH C K h id p g q h0 ⟨segs, lim, [], [], 0⟩ N [] (fun _ => False) w3 := by
  have s0 := hb.size; have s1 := b1.size; have s2 := b2.size
  have hpl := hm.head.lt; have hgl := hm.row.lt
  refine ⟨⟨O, own, L, [], ⟨hh, ⟨⟨(hm.upd (updFalse_of b2) (fun x => x) (fun x => x)).upd (updFalse_of b3) (fun x => x) (fun x => x), (fun b hb => by cases hb), List.Pairwise.nil, List.nodup_nil⟩, ha.upd (updFalse_of b3) (fun _ _ x => x), hN.trans hl.symm, fun x => ⟨fun h => (by cases h), fun ⟨b, hb, _⟩ => by cases hb⟩, fun k hk => ?_⟩, GoodH.zero, fun k hk he => ?_, fun k hk => ?_⟩, rfl, hl, HU.zero L, fun k hk => ⟨?_, fun x => x⟩⟩, ?_, fun k hk => hk.elim⟩
  · have := ho k hk
    exact ⟨by omega, by omega, fun b hb => by cases hb⟩
  · have h1 := hO k hk
    rcases he with e | e | e | ⟨b, hb, _⟩
    · omega
    · omega
    · have := ha.lt e; omega
    · cases hb
  · rcases hk with hk | e | e | e | ⟨b, hb, _⟩
    · have := hO k hk; omega
    · omega
    · omega
    · have := ho k e; omega
    · cases hb
  · rcases hk with hk | e | e | e | ⟨b, hb, _⟩
    · have := hO k hk; omega
    · omega
    · omega
    · have := ho k e; omega
    · cases hb
  · exact below_then (below_then (below_then hb s0 b1) (by omega) b2) (by omega) b3
theorem made_any (hb : Below w0.heap.size w0 w) {segs lim : Nat} (h1 : 1 ≤ segs) (h2 : segs ≤ 16) (h3 : lim ≤ segs) :
    Calls Tryz.prog 7 #[.int .i64 (segs : Int), .int .i64 (lim : Int)] w fun e w' => ∃ h p g q, e = .returned (.tuple #[.pointer (some ⟨h, 0, none⟩), .pointer (some ⟨p, 0, none⟩), .pointer (some ⟨q, 0, none⟩), .bool true]) ∧ OH C K h 7 p g q h0 ⟨segs, lim, [], [], 0⟩ (segs * 16384) [] (fun _ => False) w' := by
  obtain ⟨N, hN⟩ : ∃ N, segs * 16384 = N := ⟨_, rfl⟩
  rw [hN]
  have wS : IntKind.u64.wrap (segs : Int) = (segs : Int) := IntWalk.u64_in _ ⟨by omega, by omega⟩
  have eN : (segs : Int) * 16384 = (N : Int) := by omega
  have wN : IntKind.u64.wrap (N : Int) = (N : Int) := IntWalk.u64_in _ ⟨by omega, by omega⟩
  have HM := Lib.hid (newMem N (by omega) (by omega) (by omega) w)
  have HA := Lib.hid (fun (w : World) => lives_new segs lim h1 (by omega) h3 (Below.refl w.heap.size w))
  have HB := Lib.hid hb
  have HN := Lib.hid hN
  clear hb hN h1 h2 h3
  go_enter Tryz.func7, Tryz.ntmps7
  go_wp2_with fail
  refine HM.out.mono ?_; rintro e w1 ⟨p, g, L, rfl, hm, hl, fp, fg, b1⟩
  have M1 := Lib.hid (And.intro hm (And.intro hl (And.intro fp (And.intro fg b1))))
  clear hm hl fp fg b1
  go_wp2_with fail
  refine (HA.out w1).mono ?_; rintro e w2 ⟨q, rfl, own, ha, ho, b2⟩
  have A1 := Lib.hid (And.intro ha (And.intro ho b2))
  have B2 := Lib.hid (below_then (below_then HB.out HB.out.size M1.out.2.2.2.2) (Nat.le_trans HB.out.size M1.out.2.2.2.2.size) b2)
  clear ha ho b2
  go_wp2_with fail
  refine (K.new w2 B2.out (p := p) (q := q) (id := 7) (by decide) (by decide)).mono ?_; rintro e w3 ⟨h, O, rfl, hh, hO, b3⟩
  have K1 := Lib.hid (OH.first (K := K) HB.out M1.out.1 M1.out.2.1 HN.out M1.out.2.2.1 M1.out.2.2.2.1 M1.out.2.2.2.2 A1.out.1 A1.out.2.1 A1.out.2.2 hh hO b3)
  clear hh hO b3
  go_wp2
  refine bodyPost_ret (v := .tuple #[.pointer (some ⟨h, 0, none⟩), .pointer (some ⟨p, 0, none⟩), .pointer (some ⟨q, 0, none⟩), .bool true]) (by simp [results, Tryz.results7, go_sem]) rfl ⟨h, p, g, q, rfl, K1.out⟩
end
end Go.Proofs.YtmjeelnidiijdaaGreatDoor
/- The laws' 'alive' of layer 12. -/
namespace Go.Proofs.YtmjeelnidiijdaaGreatDoor
open Go.RowKit ListMath PageMath GeoMath SegMath ClassMath HeapMath QueueMath ArenaMath
set_option linter.unusedVariables false
set_option maxRecDepth 100000

theorem low_first : MarkMath.low newK 1 = some 1 := by decide
theorem alive_grow : growH h0 ⟨4, 4, [], [], 0⟩ 7 = (⟨[ownedSG 7 0], fun _ => q0⟩, 0, ⟨4, 4, [(0, 1)], [], 0⟩) := by rfl
theorem alive_room (Q : Nat → QR) : roomH ⟨[ownedSG 7 0], Q⟩ (wdOf 0 1) = some (ownedSG 7 0, 1) := by rfl
def aliveP : PG := ⟨1024, 16, 64, 4, 1, [1040, 1056, 1072], [], 0, 0, 0⟩
def aliveX (op pp : Nat) (P : PG) : SG := ⟨0, MarkMath.setAt newK 1 1 true, [⟨op, pp, 0, 1, 1, P⟩], 7, 1, 1⟩
theorem alive_put (op pp : Nat) (P S : PG) : (aliveX op pp P).put pp S = aliveX op pp S := by unfold SG.put aliveX; simp
theorem alive_find (op pp : Nat) (Q : Nat → QR) : findH ⟨[aliveX op pp aliveP], Q⟩ 1024 = some (aliveX op pp aliveP, ⟨op, pp, 0, 1, 1, aliveP⟩) := by simp [findH, findO, inS, aliveX]
theorem alive_fresh (op pp : Nat) : freshX (ownedSG 7 0) op pp 0 1 1 = aliveX op pp aliveP := by
  have e : (ownedSG 7 0).add op pp 0 1 (wdOf 0 1) (nOf 0) (szOf 0 1) = aliveX op pp (newPG 1024 16 64) := by rfl
  unfold freshX
  rw [e]
  rw [alive_put]; rfl
/-- Fresh of class 0 in the first segment, and its block back: nothing is left. -/
theorem alive_back {H' : HS} {x : Nat} (h : Freshed ⟨[ownedSG 7 0], fun _ => q0⟩ 0 1 x H') : x = 1024 ∧ H'.B.length = 1 ∧ (freeH H' ⟨4, 4, [(0, 1)], [], 0⟩ 1024).1.1.B = [] ∧ total (freeH H' ⟨4, 4, [(0, 1)], [], 0⟩ 1024).1.2.l = 0 := by
  obtain ⟨X, a, op, pp, hr, _, hx, rfl⟩ := h
  have e := (alive_room fun _ => q0).symm.trans hr
  cases e
  refine ⟨by rw [hx]; rfl, rfl, ?_⟩
  obtain ⟨Q', hQ⟩ : ∃ Q', freshH ⟨[ownedSG 7 0], fun _ => q0⟩ (ownedSG 7 0) op pp 0 (Int.toNat 1) 1 = ⟨[aliveX op pp aliveP], Q'⟩ := ⟨_, by
    show HS.mk [freshX (ownedSG 7 0) op pp 0 1 1] _ = _
    rw [alive_fresh]⟩
  rw [hQ]
  have hf := alive_find op pp Q'
  have hp := alive_put op pp aliveP (free1 aliveP 1024).1
  unfold freeH
  rw [hf]
  simp only []
  rw [if_neg (by decide), hp]
  exact ⟨rfl, rfl⟩
theorem alive_plan : plV (forN 1 1).1 = .agg #[.int .i64 0, .int .i64 1, .int .i64 0, .int .u64 16] ∧ (forN 1 1).2 = 0 := by
  have e : forN 1 1 = (⟨0, 1, 0, 16⟩, 0) := by rfl
  rw [e]; exact ⟨rfl, rfl⟩
set_option maxHeartbeats 1000000 in
theorem alive_h (w : World) {C : SgC w} (K : HpC w C) (F : Fo w) : Calls Tryz.prog 6 #[] w fun e w' => e = .returned (.bool true) ∧ Below w.heap.size w w' := by
  have HP := Lib.hid alive_plan
  have HG := Lib.hid alive_grow
  have HF := Lib.hid (F.for_ 1 1 (by decide) (by decide))
  go_enter Tryz.func6, Tryz.ntmps6
  go_wp2_with fail
  refine (made_any (K := K) (Below.refl _ _) (segs := 4) (lim := 4) (by decide) (by decide) (by decide)).mono ?_; rintro e w1 ⟨h, p, g, q, rfl, z⟩
  have Z1 := Lib.hid z; clear z
  go_wp2_with fail
  refine (oh_grow Z1.out (by decide)).mono ?_; rw [HG.out]; rintro e w2 ⟨rfl, z, _⟩
  have Z2 := Lib.hid z; clear z
  go_wp2_with fail
  refine (HF.out w2 Z2.out.below).mono ?_; rw [HP.out.1, HP.out.2]; rintro e w3 ⟨rfl, hb⟩
  have Z3 := Lib.hid (Z2.out.grew hb); clear hb
  go_wp2_with fail
  refine (oh_fresh (c := 0) (sl := 1) (sg := 0) (us := 16) (Z3.out.alloc _) ⟨by decide, by decide⟩ ⟨by decide, by decide⟩ ⟨by decide, by decide⟩ (by decide)).mono ?_; rintro e w4 ⟨x, er, H', rfl, hx⟩
  obtain ⟨rfl, z, rfl, h1, h2, h3⟩ : er = 0 ∧ OH C K h 7 p g q H' ⟨4, 4, [(0, 1)], [], 0⟩ (4 * 16384) [1024] (fun _ => False) w4 ∧ x = 1024 ∧ H'.B.length = 1 ∧ (freeH H' ⟨4, 4, [(0, 1)], [], 0⟩ 1024).1.1.B = [] ∧ total (freeH H' ⟨4, 4, [(0, 1)], [], 0⟩ 1024).1.2.l = 0 := by
    rcases hx with ⟨k1, _, _, ⟨k2, _⟩, k3, _⟩ | ⟨_, _, _, _, k | k⟩
    · have k4 := alive_back k3
      obtain ⟨rfl, k4⟩ := k4
      exact ⟨k1, k2, rfl, k4⟩
    · exact absurd k (by decide)
    · exact absurd ((alive_room fun _ => q0).symm.trans k) (by simp)
  have Z4 := Lib.hid z
  have E1 := Lib.hid h1; have E2 := Lib.hid h2; have E3 := Lib.hid h3
  clear z hx h1 h2 h3
  go_wp2_with fail
  refine (oh_segs Z4.out).mono ?_; rintro e w5 ⟨a1, k1, cap1, S1, rfl, hs, hl, hc1, hc2, _, hb⟩
  have Z5 := Lib.hid (Z4.out.grew hb)
  obtain rfl : k1 = 1 := by rw [hs.len, hl, E1.out]
  clear hs hl hb
  go_wp2_with fail
  refine (oh_free (x := 1024) (U' := []) Z5.out (List.Perm.refl _) (by decide)).mono ?_; rintro e w6 ⟨rfl, z, _⟩
  have Z6 := Lib.hid z; clear z
  go_wp2_with fail
  refine (oh_segs Z6.out).mono ?_; rintro e w7 ⟨a2, k2, cap2, S2, rfl, hs, hl, hd1, hd2, _, hb⟩
  have Z7 := Lib.hid (Z6.out.grew hb)
  obtain rfl : k2 = 0 := by rw [hs.len, hl, E2.out]; rfl
  clear hs hl hb
  go_wp2_with fail
  refine (oh_given Z7.out).mono ?_; rw [E3.out]; rintro e w8 ⟨rfl, hb⟩
  have Z8 := Lib.hid (Z7.out.grew hb); clear hb
  go_wp2_with fail
  refine (K.grow_nil w8 Z8.out.below).mono ?_; rintro e w9 ⟨rfl, hb⟩
  have B9 := Lib.hid (below_then Z8.out.below Z8.out.below.size hb); clear hb
  go_wp2
  go_ret
  exact ⟨rfl, B9.out⟩
end Go.Proofs.YtmjeelnidiijdaaGreatDoor
