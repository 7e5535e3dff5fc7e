/- Layer 12: how many pages there are. -/
import Derived.Test.YtfdnmoedejejlaaGreatDoorUses12
namespace Go.Proofs.YtfdnmoedejejlaaGreatDoor.HeapMath
open ListMath GeoMath PageMath ClassMath SegMath QueueMath
open ArenaMath (St reserve release)
set_option linter.unusedVariables false

theorem ints_bound : ∀ (n : Nat) {l : List Int}, l.Nodup → (∀ x ∈ l, 0 ≤ x ∧ x < (n : Int)) → l.length ≤ n
  | 0, l, _, hb => by
    cases l with
    | nil => exact Nat.le_refl _
    | cons x t => have := hb x (List.mem_cons_self ..); omega
  | n + 1, l, hn, hb => by
    by_cases h : (n : Int) ∈ l
    · have h1 := out_length hn h
      have h2 := ints_bound n (l := out l (n : Int)) (out_nodup hn _) fun x hx => by
        obtain ⟨h3, h4⟩ := mem_out.1 hx
        have := hb x h3
        omega
      omega
    · have := ints_bound n hn fun x hx => by
        have h1 := hb x hx
        have h2 : x ≠ (n : Int) := fun e => h (e ▸ hx)
        omega
      omega
theorem q_len {H : HS} (g : GoodH H) (i : Nat) : (H.Q i).all.length ≤ 1024 := ints_bound 1024 (g.q i).nd fun x hx => by
  obtain ⟨X, hX, o, ho, _, e⟩ := (g.mem i x).1 hx
  have := key_le (g.seg X hX) ho
  rw [e]; omega
def lenP (H : HS) (c : Int) : Nat := (pagesH H [c]).length
theorem lenP_of (H : HS) {c : Int} (h1 : -1 ≤ c) (h2 : c ≤ 11) : lenP H c = (H.Q (qi c)).all.length := by
  have e : okC c = true := by unfold okC; simp [h1, h2]
  unfold lenP pagesH pagesOf
  rw [if_neg (by simp)]
  simp [e]
def psum (H : HS) : Nat → Nat
  | 0 => 0
  | k + 1 => psum H k + lenP H ((k : Int) - 1)
theorem psum_le {H : HS} (g : GoodH H) : ∀ k, k ≤ 13 → psum H k ≤ k * 1024
  | 0, _ => Nat.zero_le _
  | k + 1, h => by
    have h1 := psum_le g k (by omega)
    have h2 := lenP_of H (c := (k : Int) - 1) (by omega) (by omega)
    have h3 := q_len g (qi ((k : Int) - 1))
    show psum H k + lenP H ((k : Int) - 1) ≤ _
    omega
theorem psum_all (H : HS) : psum H 13 = (pagesH H []).length := by
  have h : ∀ c : Int, -1 ≤ c → c ≤ 11 → lenP H c = (H.Q (qi c)).all.length := fun c a b => lenP_of H a b
  have e : (pagesH H []).length = ((H.Q 0).all.length + ((H.Q 1).all.length + ((H.Q 2).all.length + ((H.Q 3).all.length + ((H.Q 4).all.length + ((H.Q 5).all.length + ((H.Q 6).all.length + ((H.Q 7).all.length + ((H.Q 8).all.length + ((H.Q 9).all.length + ((H.Q 10).all.length + ((H.Q 11).all.length + (H.Q 12).all.length)))))))))))) := by
    unfold pagesH pagesOf allC
    simp [okC, qi]
  rw [e]
  simp only [psum]
  rw [h _ (by decide) (by decide), h _ (by decide) (by decide), h _ (by decide) (by decide), h _ (by decide) (by decide), h _ (by decide) (by decide), h _ (by decide) (by decide), h _ (by decide) (by decide), h _ (by decide) (by decide), h _ (by decide) (by decide), h _ (by decide) (by decide), h _ (by decide) (by decide), h _ (by decide) (by decide), h _ (by decide) (by decide)]
  show 0 + (H.Q 12).all.length + (H.Q 0).all.length + (H.Q 1).all.length + (H.Q 2).all.length + (H.Q 3).all.length + (H.Q 4).all.length + (H.Q 5).all.length + (H.Q 6).all.length + (H.Q 7).all.length + (H.Q 8).all.length + (H.Q 9).all.length + (H.Q 10).all.length + (H.Q 11).all.length = _
  omega
theorem grow_r (H : HS) (A : St) (id : Nat) : (growH H A id).2.2.r ≤ A.r + 1 := by
  have := (ArenaMath.reserve_same A 1).2.2
  unfold growH
  split <;> exact this
end Go.Proofs.YtfdnmoedejejlaaGreatDoor.HeapMath
