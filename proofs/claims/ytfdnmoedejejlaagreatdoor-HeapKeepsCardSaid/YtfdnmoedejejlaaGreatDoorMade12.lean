/- The laws' 'made' of layer 12: a memory, an arena, a heap over them. -/
import Derived.Test.YtfdnmoedejejlaaGreatDoorHeapOs
namespace Go.Proofs.YtfdnmoedejejlaaGreatDoor
open Go.RowKit ListMath PageMath GeoMath SegMath ClassMath HeapMath QueueMath ArenaMath
set_option linter.unusedVariables false
set_option maxRecDepth 100000

section
variable {w0 w : World} {C : SgC w0} {K : HpC w0 C}
theorem OH.first {w1 w2 w3 : World} {h id p g q N segs lim : Nat} {O own : Nat → Prop} {L : List Nat} (hb : Below w0.heap.size w0 w) (hm : IsMem w1 p g L) (hl : L.length = N) (hN : segs * 16384 = N) (hp : w.heap.size ≤ p) (hg : w.heap.size ≤ g) (b1 : Below w.heap.size w w1)
    (ha : IsArena w2 q own ⟨segs, lim, [], [], 0⟩) (ho : ∀ k, own k → w1.heap.size ≤ k) (b2 : Below w1.heap.size w1 w2) (hh : K.Hp w3 h O id p q [] (fun _ => q0)) (hO : ∀ k, O k → w2.heap.size ≤ k) (b3 : Below w2.heap.size w2 w3) : OH C K h id p g q h0 ⟨segs, lim, [], [], 0⟩ N [] (fun _ => False) w3 := by
  have s0 := hb.size; have s1 := b1.size; have s2 := b2.size
  have hpl := hm.head.lt; have hgl := hm.row.lt
  refine ⟨⟨O, own, L, [], ⟨hh, ⟨⟨(hm.upd (updFalse_of b2) (fun x => x) (fun x => x)).upd (updFalse_of b3) (fun x => x) (fun x => x), (fun b hb => by cases hb), List.Pairwise.nil, List.nodup_nil⟩, ha.upd (updFalse_of b3) (fun _ _ x => x), hN.trans hl.symm, fun x => ⟨fun h => (by cases h), fun ⟨b, hb, _⟩ => by cases hb⟩, fun k hk => ?_⟩, GoodH.zero, fun k hk he => ?_, fun k hk => ?_⟩, rfl, hl, HU.zero L, fun k hk => ⟨?_, fun x => x⟩⟩, ?_, fun k hk => hk.elim⟩
  · have := ho k hk
    exact ⟨by omega, by omega, fun b hb => by cases hb⟩
  · have h1 := hO k hk
    rcases he with e | e | e | ⟨b, hb, _⟩
    · omega
    · omega
    · have := ha.lt e; omega
    · cases hb
  · rcases hk with hk | e | e | e | ⟨b, hb, _⟩
    · have := hO k hk; omega
    · omega
    · omega
    · have := ho k e; omega
    · cases hb
  · rcases hk with hk | e | e | e | ⟨b, hb, _⟩
    · have := hO k hk; omega
    · omega
    · omega
    · have := ho k e; omega
    · cases hb
  · exact below_then (below_then (below_then hb s0 b1) (by omega) b2) (by omega) b3
theorem made_any (hb : Below w0.heap.size w0 w) {segs lim : Nat} (h1 : 1 ≤ segs) (h2 : segs ≤ 16) (h3 : lim ≤ segs) :
    Calls Tryz.prog 10 #[.int .i64 (segs : Int), .int .i64 (lim : Int)] w fun e w' => ∃ h p g q, e = .returned (.tuple #[.pointer (some ⟨h, 0, none⟩), .pointer (some ⟨p, 0, none⟩), .pointer (some ⟨q, 0, none⟩), .bool true]) ∧ OH C K h 7 p g q h0 ⟨segs, lim, [], [], 0⟩ (segs * 16384) [] (fun _ => False) w' := by
  obtain ⟨N, hN⟩ : ∃ N, segs * 16384 = N := ⟨_, rfl⟩
  rw [hN]
  have wS : IntKind.u64.wrap (segs : Int) = (segs : Int) := IntWalk.u64_in _ ⟨by omega, by omega⟩
  have eN : (segs : Int) * 16384 = (N : Int) := by omega
  have wN : IntKind.u64.wrap (N : Int) = (N : Int) := IntWalk.u64_in _ ⟨by omega, by omega⟩
  have HM := Lib.hid (newMem N (by omega) (by omega) (by omega) w)
  have HA := Lib.hid (fun (w : World) => lives_new segs lim h1 (by omega) h3 (Below.refl w.heap.size w))
  have HB := Lib.hid hb
  have HN := Lib.hid hN
  clear hb hN h1 h2 h3
  go_enter Tryz.func10, Tryz.ntmps10
  go_wp2_with fail
  refine HM.out.mono ?_; rintro e w1 ⟨p, g, L, rfl, hm, hl, fp, fg, b1⟩
  have M1 := Lib.hid (And.intro hm (And.intro hl (And.intro fp (And.intro fg b1))))
  clear hm hl fp fg b1
  go_wp2_with fail
  refine (HA.out w1).mono ?_; rintro e w2 ⟨q, rfl, own, ha, ho, b2⟩
  have A1 := Lib.hid (And.intro ha (And.intro ho b2))
  have B2 := Lib.hid (below_then (below_then HB.out HB.out.size M1.out.2.2.2.2) (Nat.le_trans HB.out.size M1.out.2.2.2.2.size) b2)
  clear ha ho b2
  go_wp2_with fail
  refine (K.new w2 B2.out (p := p) (q := q) (id := 7) (by decide) (by decide)).mono ?_; rintro e w3 ⟨h, O, rfl, hh, hO, b3⟩
  have K1 := Lib.hid (OH.first (K := K) HB.out M1.out.1 M1.out.2.1 HN.out M1.out.2.2.1 M1.out.2.2.2.1 M1.out.2.2.2.2 A1.out.1 A1.out.2.1 A1.out.2.2 hh hO b3)
  clear hh hO b3
  go_wp2
  refine bodyPost_ret (v := .tuple #[.pointer (some ⟨h, 0, none⟩), .pointer (some ⟨p, 0, none⟩), .pointer (some ⟨q, 0, none⟩), .bool true]) (by simp [results, Tryz.results10, go_sem]) rfl ⟨h, p, g, q, rfl, K1.out⟩
end
end Go.Proofs.YtfdnmoedejejlaaGreatDoor
