/- HeapBack, as numbers: one page behind the other is gathered. -/
import Derived.Test.YtmjeelnidiijdaaGreatDoorBack12
namespace Go.Proofs.YtmjeelnidiijdaaGreatDoor.HeapMath
open ListMath GeoMath PageMath ClassMath SegMath QueueMath
open ArenaMath (St reserve release total)
set_option linter.unusedVariables false
section
variable {H H' : HS} {L U : List Nat} {X Z : SG} {o z : OwR} {A A' : St} {n a : Nat} {P rest : List Nat}
theorem gath_is (H : HS) (A : St) (X : SG) (o : OwR) (P : List Nat) : ∃ H1 : HS, H1.B = (H.setB (X.put o.pp (gathP o.P P))).B ∧ (∀ (g : GoodH H), X ∈ H.B → o ∈ X.L → GoodH H1) ∧ gathH H A X o P = tidyH H1 A (X.put o.pp (gathP o.P P)) { o with P := gathP o.P P } := by
  unfold gathH
  split
  · exact ⟨H.setB (X.put o.pp (gathP o.P P)), rfl, fun g hX ho => g.put hX ho ⟨rfl, rfl, rfl⟩, rfl⟩
  · exact ⟨wokeH H X o (gathP o.P P), rfl, fun g hX ho => good_woke (S := gathP o.P P) g hX ho ⟨rfl, rfl, rfl⟩, rfl⟩
theorem gath_keeps (g : GoodH H) (hX : X ∈ H.B) (ho : o ∈ X.L) (hZ : Z ∈ H.B) (hz : z ∈ Z.L) (hne : ¬ (Z = X ∧ z = o)) : ∃ Z' ∈ (gathH H A X o P).1.B, z ∈ Z'.L ∧ Z'.pl = Z.pl := by
  obtain ⟨H1, e1, g1, e2⟩ := gath_is H A X o P
  rw [e2]
  have gg := g1 g hX ho
  have hX1 : X.put o.pp (gathP o.P P) ∈ H1.B := by rw [e1]; exact mem_setB.2 (.inl ⟨rfl, X, hX, rfl⟩)
  by_cases e : Z.pl = X.pl
  · have ez := pl_one g.pls hZ hX e
    subst ez
    have hpp : z.pp ≠ o.pp := fun e3 => hne ⟨rfl, pp_only (g.seg Z hZ) ho hz e3⟩
    obtain ⟨Z', h1, h2, h3⟩ := tidy_keeps (A := A) gg hX1 (put_in ho _) hX1 (put_mem.2 ⟨z, hz, by rw [if_neg hpp]⟩ : z ∈ (Z.put o.pp (gathP o.P P)).L) fun h => hpp (by rw [h.2])
    exact ⟨Z', h1, h2, h3⟩
  · have hZ1 : Z ∈ H1.B := by rw [e1]; exact mem_setB.2 (.inr ⟨hZ, e⟩)
    exact tidy_keeps (A := A) gg hX1 (put_in ho _) hZ1 hz fun h => e (by rw [h.1]; rfl)
theorem gath_pages (g : GoodH H) (hX : X ∈ H.B) (ho : o ∈ X.L) : ∀ X' ∈ (gathH H A X o P).1.B, ∀ o' ∈ X'.L, o'.P.cw = 0 ∨ ∃ Z ∈ H.B, o' ∈ Z.L ∧ Z.pl = X'.pl ∧ ¬ (Z = X ∧ o' = o) := by
  have g' := good_gath g A hX ho P
  obtain ⟨H1, e1, g1, e2⟩ := gath_is H A X o P
  intro X' hX' o' ho'
  have hrun := (g'.seg X' hX').g.run o' ho'
  rw [e2] at hX'
  have hX1 : X.put o.pp (gathP o.P P) ∈ H1.B := by rw [e1]; exact mem_setB.2 (.inl ⟨rfl, X, hX, rfl⟩)
  obtain ⟨Z, hZ, hz⟩ := pages_tidy (X.put o.pp (gathP o.P P)) { o with P := gathP o.P P } hX1 X' hX' o' ho'
  rw [e1] at hZ
  rcases mem_setB.1 hZ with ⟨rfl, _⟩ | ⟨hZ, hpl⟩
  · obtain ⟨u, hu, e3⟩ := put_mem.1 hz
    by_cases hp : u.pp = o.pp
    · rw [if_pos hp] at e3
      refine .inl ?_
      rw [e3]; rfl
    · rw [if_neg hp] at e3
      subst e3
      refine .inr ⟨X, hX, hu, ?_, fun h => hp (by rw [h.2])⟩
      have h2 := (g.seg X hX).g.run o' hu
      unfold fromS at hrun h2
      omega
  · refine .inr ⟨Z, hZ, hz, ?_, fun h => hpl (by rw [h.1]; rfl)⟩
    have h2 := (g.seg Z hZ).g.run o' hz
    unfold fromS at hrun h2
    omega
/-- The pages that are still to be gathered: each is there, and whatever has something on its word is among them. -/
structure GatI (rest : List Nat) (H : HS) : Prop where
  there : ∀ a ∈ rest, ∃ X ∈ H.B, ∃ o ∈ X.L, a = pageAt (HeapMath.keyOf X o)
  word : ∀ X ∈ H.B, ∀ o ∈ X.L, o.P.cw ≠ 0 → pageAt (HeapMath.keyOf X o) ∈ rest
theorem GatI.all (g : GoodH H) : GatI (pagesH H []) H := ⟨fun a ha => (told_mem g).1 ha, fun X hX o ho _ => (told_mem g).2 ⟨X, hX, o, ho, rfl⟩⟩
theorem GatI.step (g : GoodH H) (h : GatI (a :: rest) H) (nd : (a :: rest).Nodup) (hX : X ∈ H.B) (ho : o ∈ X.L) (ea : a = pageAt (HeapMath.keyOf X o)) : GatI rest (gathH H A X o P).1 := by
  refine ⟨fun a' ha' => ?_, fun X' hX' o' ho' hw => ?_⟩
  · obtain ⟨Z, hZ, z, hz, e⟩ := h.there a' (List.mem_cons_of_mem _ ha')
    obtain ⟨Z', h1, h2, h3⟩ := gath_keeps (A := A) (P := P) g hX ho hZ hz fun hh => by
      rw [hh.1, hh.2] at e
      rw [← ea] at e
      rw [List.nodup_cons] at nd
      exact nd.1 (e ▸ ha')
    exact ⟨Z', h1, z, h2, by rw [e]; unfold HeapMath.keyOf; rw [h3]⟩
  · rcases gath_pages g hX ho X' hX' o' ho' with h1 | ⟨Z, hZ, hz, h2, h3⟩
    · exact absurd h1 hw
    · have hk : HeapMath.keyOf X' o' = HeapMath.keyOf Z o' := by unfold HeapMath.keyOf; rw [h2]
      rw [hk]
      rcases List.mem_cons.1 (h.word Z hZ o' hz hw) with e | e
      · exfalso
        rw [ea] at e
        have := pageAt_inj (key_le (g.seg Z hZ) hz).1 (key_le (g.seg X hX) ho).1 e
        exact h3 (key_one g hZ hX hz ho this)
      · exact e
end
end Go.Proofs.YtmjeelnidiijdaaGreatDoor.HeapMath
