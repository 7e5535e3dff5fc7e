/- HeapBack, as numbers: pages told, posted and gathered. -/
import Derived.Test.YtmjeelnidiijdaaGreatDoorMoves12
namespace Go.Proofs.YtmjeelnidiijdaaGreatDoor.HeapMath
open ListMath GeoMath PageMath ClassMath SegMath QueueMath
open ArenaMath (St reserve release total)
set_option linter.unusedVariables false
section
variable {H H' : HS} {L U : List Nat} {X Z : SG} {o z : OwR} {A A' : St} {n : Nat}
/-- How often pages' words were written. -/
def CtB (n : Nat) (H : HS) : Prop := ∀ X ∈ H.B, ∀ o ∈ X.L, o.P.ct ≤ n
theorem CtB.rows (b : CtB n H) (e : H'.B = H.B) : CtB n H' := fun X hX => b X (by rw [← e]; exact hX)
theorem CtB.put (b : CtB n H) (hX : X ∈ H.B) {pp : Nat} {S : PG} (hS : S.ct ≤ n) : CtB n (H.setB (X.put pp S)) := fun Z hZ z hz => by
  rcases mem_setB.1 hZ with ⟨rfl, _⟩ | ⟨hZ, _⟩
  · obtain ⟨u, hu, rfl⟩ := put_mem.1 hz
    split
    · exact hS
    · exact b X hX u hu
  · exact b Z hZ z hz
theorem CtB.mono {m : Nat} (b : CtB n H) (h : n ≤ m) : CtB m H := fun X hX o ho => Nat.le_trans (b X hX o ho) h
theorem alloc_ct (S : PG) : (allocP S).1.ct = S.ct := by
  cases hF : (refill S).F with
  | nil => rw [allocP_nil hF]
  | cons a t =>
    rw [allocP_cons hF]
    show (refill S).ct = _
    unfold refill; split
    · rfl
    · split <;> rfl
theorem CtB.local' (g : GoodH H) (b : CtB n H) (c : Int) : CtB n (localH H c).1 := by
  rcases localH_cases g c with ⟨_, _, H1, X, o, h1, h2, h3, h4, h5, h6, e⟩ | ⟨H1, e0, h1, h2, h3, e⟩
  · rw [e]
    exact (b.rows h1).put (by rw [h1]; exact h3) (by rw [alloc_ct]; exact b X h3 o h4)
  · rw [e]; exact b.rows h1
theorem CtB.fresh (b : CtB n H) {c sl : Int} {x : Nat} (f : Freshed H c sl x H') : CtB n H' := by
  obtain ⟨X, a, op, pp, hr, hp, _, rfl⟩ := f
  obtain ⟨hX, _⟩ := roomH_some hr
  intro Z hZ z hz
  rcases mem_setB.1 hZ with ⟨rfl, _⟩ | ⟨hZ, _⟩
  · obtain ⟨u, hu, rfl⟩ := put_mem.1 hz
    rcases insR_mem.1 (show u ∈ insR X.L _ from hu) with rfl | ⟨hu, _⟩
    · rw [if_pos rfl]; exact Nat.zero_le _
    · rw [if_neg (hp u hu)]; exact b X hX u hu
  · exact b Z hZ z hz
theorem CtB.grow (b : CtB n H) {id : Nat} : CtB n (growH H A id).1 := by
  unfold growH
  split
  · exact b
  · intro Z hZ z hz
    rcases List.mem_append.1 hZ with h | h
    · exact b Z h z hz
    · rw [List.mem_singleton.1 h] at hz; cases hz
theorem CtB.loc (g : GoodH H) (b : CtB n H) (c : Int) : CtB n (locH H c) := by
  unfold locH; split
  · exact b.local' g c
  · exact b
theorem CtB.way {c : Int} {sl x id : Nat} {ok : Bool} (g : GoodH H) (b : CtB n H) (v : Way H A id c sl x ok H' A') : CtB n H' := by
  cases v with
  | loc h1 h2 => exact b.local' g c
  | new h1 h2 => exact (b.loc g c).fresh h2
  | full h1 h2 h3 => exact (b.loc g c).grow
  | more h1 h2 h3 h5 h4 => exact (b.loc g c).grow.fresh h4
theorem CtB.free (g : GoodH H) (hc : CtB n H) (a : Nat) : CtB n (freeH H A a).1.1 := by
  unfold freeH
  cases he : findH H a with
  | none => exact hc
  | some zz =>
    obtain ⟨X, o⟩ := zz
    obtain ⟨hX, hf⟩ := findH_some he
    have ho := (findO_some hf).1
    simp only []
    split
    · exact hc
    · intro X' hX' o' ho'
      obtain ⟨Z, hZ, hz⟩ := pages_tidy (H := wokeH H X o (free1 o.P a).1) (X.put o.pp (free1 o.P a).1) { o with P := (free1 o.P a).1 } (mem_setB.2 (.inl ⟨rfl, X, hX, rfl⟩)) X' hX' o' ho'
      rcases mem_setB.1 hZ with ⟨rfl, _⟩ | ⟨hZ, _⟩
      · obtain ⟨u, hu, rfl⟩ := put_mem.1 hz
        split
        · have hs : (free1 o.P a).1.ct = o.P.ct := by
            unfold free1; split
            · rfl
            · split <;> rfl
          show (free1 o.P a).1.ct ≤ n
          rw [hs]; exact hc X hX o ho
        · exact hc X hX u hu
      · exact hc Z hZ o' hz
/-! ### The pages told -/
theorem told_mem (g : GoodH H) {a : Nat} : a ∈ pagesH H [] ↔ ∃ X ∈ H.B, ∃ o ∈ X.L, a = pageAt (HeapMath.keyOf X o) := by
  unfold pagesH
  rw [if_pos rfl]
  unfold pagesOf
  rw [List.mem_flatMap]
  constructor
  · rintro ⟨c, _, ha⟩
    split at ha
    · obtain ⟨k, hk, rfl⟩ := List.mem_map.1 ha
      obtain ⟨X, hX, o, ho, _, rfl⟩ := (g.mem _ k).1 hk
      exact ⟨X, hX, o, ho, rfl⟩
    · cases ha
  · rintro ⟨X, hX, o, ho, rfl⟩
    have hc : o.cls ∈ allC ∧ okC o.cls = true := by
      rcases (g.seg X hX).g.cls o ho with ⟨k1, _⟩ | ⟨d, k1, k2, _⟩
      · rw [k1]; decide
      · rw [k2]
        have : ∀ d, d < 12 → ((d : Nat) : Int) ∈ allC ∧ okC ((d : Nat) : Int) = true := by decide
        exact this d k1
    refine ⟨o.cls, hc.1, ?_⟩
    rw [if_pos hc.2]
    exact List.mem_map.2 ⟨_, (g.mem _ _).2 ⟨X, hX, o, ho, rfl, rfl⟩, rfl⟩
theorem pageAt_inj {k m : Int} (hk : 0 ≤ k) (hm : 0 ≤ m) (e : pageAt k = pageAt m) : k = m := by unfold pageAt at e; omega
theorem told_nodup (g : GoodH H) : (pagesH H []).Nodup := by
  unfold pagesH
  rw [if_pos rfl]
  unfold pagesOf
  have hk0 : ∀ i k, k ∈ (H.Q i).all → 0 ≤ k := fun i k hk => by
    obtain ⟨X, hX, o, ho, _, rfl⟩ := (g.mem i k).1 hk
    exact (key_le (g.seg X hX) ho).1
  unfold List.Nodup
  rw [List.pairwise_flatMap]
  refine ⟨fun c _ => ?_, ?_⟩
  · split
    · rw [List.pairwise_map]
      refine List.Pairwise.imp_of_mem (fun {a b} ha hb hne e => hne (pageAt_inj (hk0 _ _ ha) (hk0 _ _ hb) e)) (g.q (qi c)).nd
    · exact List.Pairwise.nil
  · have hall : allC.Pairwise fun c d => qi c ≠ qi d := by decide
    refine hall.imp fun {c d} hne a ha b hb e => ?_
    split at ha
    · split at hb
      · obtain ⟨k, hk, rfl⟩ := List.mem_map.1 ha
        obtain ⟨m, hm, rfl⟩ := List.mem_map.1 hb
        have hkm := pageAt_inj (hk0 _ _ hk) (hk0 _ _ hm) e
        obtain ⟨X, hX, o, ho, e1, e2⟩ := (g.mem _ k).1 hk
        obtain ⟨Z, hZ, z, hz, e3, e4⟩ := (g.mem _ m).1 hm
        obtain ⟨rfl, rfl⟩ := key_one g hX hZ ho hz (e2.symm.trans (hkm.trans e4))
        exact hne (e1.symm.trans e3)
      · cases hb
    · cases ha
/-- Behind a tidy of (X, o): all other pages are there still. -/
theorem tidy_keeps (g : GoodH H) (hX : X ∈ H.B) (ho : o ∈ X.L) (hZ : Z ∈ H.B) (hz : z ∈ Z.L) (hne : ¬ (Z = X ∧ z = o)) : ∃ Z' ∈ (tidyH H A X o).1.B, z ∈ Z'.L ∧ Z'.pl = Z.pl := by
  have hcut : ∃ Z' ∈ (H.setB (X.cut o)).B, z ∈ Z'.L ∧ Z'.pl = Z.pl := by
    by_cases e : Z.pl = X.pl
    · have ez := pl_one g.pls hZ hX e
      subst ez
      have hlo : z.lo ≠ o.lo := fun e2 => hne ⟨rfl, by
        rcases (g.seg Z hZ).g.apart hz ho with h
        have hzo : z = o := by
          by_cases hh : z = o
          · exact hh
          · have h1 := h hh
            have h2 := (g.seg Z hZ).g.run z hz; have h3 := (g.seg Z hZ).g.run o ho
            rw [h2, h3, e2] at h1
            have h4 := ((g.seg Z hZ).g.cls z hz).size ((g.seg Z hZ).g.fit z hz).2.1
            have h5 := ((g.seg Z hZ).g.cls o ho).size ((g.seg Z hZ).g.fit o ho).2.1
            have h6 : 1 * 16 ≤ z.P.n * z.P.s := Nat.mul_le_mul h4.2.1 h4.1
            have h7 : 1 * 16 ≤ o.P.n * o.P.s := Nat.mul_le_mul h5.2.1 h5.1
            omega
        exact hzo⟩
      exact ⟨Z.cut o, mem_setB.2 (.inl ⟨rfl, Z, hZ, rfl⟩), List.mem_filter.2 ⟨hz, decide_eq_true hlo⟩, rfl⟩
    · exact ⟨Z, mem_setB.2 (.inr ⟨hZ, e⟩), hz, rfl⟩
  unfold tidyH
  split
  · exact ⟨Z, hZ, hz, rfl⟩
  · split
    · rename_i he
      obtain ⟨Z', h1, h2, h3⟩ := hcut
      refine ⟨Z', mem_cutB.2 ⟨h1, fun e => ?_⟩, h2, h3⟩
      have hc : X.cut o ∈ (H.setB (X.cut o)).B := mem_setB.2 (.inl ⟨rfl, X, hX, rfl⟩)
      have hn : ((H.setB (X.cut o)).B.map fun X => X.pl).Nodup := by rw [pls_setB]; exact g.pls
      have := pl_one hn h1 hc e
      rw [this, he] at h2
      cases h2
    · exact hcut
end
end Go.Proofs.YtmjeelnidiijdaaGreatDoor.HeapMath
