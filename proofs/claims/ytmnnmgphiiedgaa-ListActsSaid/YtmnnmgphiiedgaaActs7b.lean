/- Layer 7: what each call makes of two lists of the program, and of the document. -/
import Derived.Test.YtmnnmgphiiedgaaActs7
import Derived.Test.YtmnnmgphiiedgaaBytesIn
namespace Go.Proofs.Ytmnnmgphiiedgaa
open Go.RowKit ListMath
set_option linter.unusedVariables false

theorem store_out {w : World} {p g : Nat} {L : List Nat} (h : IsMem w p g L) (addr n x : Nat) (h4 : W4 n) (hx : x < 256 ^ n) (hx' : x ≤ 18446744073709551615) (hn : L.length < addr + n) :
    Calls Try.prog 20 #[.pointer (some ⟨p, 0, none⟩), .int .u64 (addr : Int), .int .i64 (n : Int), .int .u64 (x : Int)] w fun e w' => e = .returned (.int .i64 3) ∧ w = w' := by
  have HW := Lib.hid (word_out h addr n x h4 hx hx' hn)
  clear h h4 hx hn
  go_enter Try.func20, Try.ntmps20
  go_wp2_with (go_at_call 35; refine HW.out.mono ?_; rintro e w' ⟨rfl, rfl⟩)
  go_ret
  exact ⟨rfl, rfl⟩
theorem u64_of' {n : Int} (h : (Lit.int .u64 n).wf = true) : n = ((n.toNat : Nat) : Int) ∧ n.toNat ≤ 18446744073709551615 := by
  simp [Lit.wf, IntKind.min, IntKind.max, IntKind.signed, IntKind.bits] at h; omega
/-- A slice of numbers that came in. -/
theorem NumsAt.seqU {w : World} {v : Value} {l : List Int} (h : NumsAt w .u64 v l) : ∃ a n cap, ∃ L : List Nat, v = .slice a n cap ∧ n = L.length ∧ n ≤ cap ∧ cap ≤ 9223372036854775807 ∧ Seq Elem.u64s w (.slice a n cap) L ∧ (∀ x ∈ L, x ≤ 18446744073709551615) ∧ (0 < n → ∀ b, In (.slice a n cap) b → b < w.heap.size) := by
  obtain ⟨a, cap, rfl, h1, h2, h3, h4, h5⟩ := h
  have hlen : (l.map Int.toNat).length = l.length := by simp
  have hx : ∀ x ∈ l.map Int.toNat, x ≤ 18446744073709551615 := fun x hx => by
    obtain ⟨y, hy, rfl⟩ := List.mem_map.1 hx
    exact (u64_of' (h5 y hy)).2
  by_cases h0 : 0 < l.length
  · obtain ⟨b, off, rfl, hc0⟩ := h4 0 h0
    refine ⟨_, _, cap, l.map Int.toNat, rfl, hlen.symm, h1, h2, Seq.at hlen.symm fun j u hj => ?_, hx, fun _ c hc => ?_⟩
    · rw [all_u64s, List.map_map] at hj
      have hjl : j < l.length := by have := (List.getElem?_eq_some_iff.1 hj).1; simpa using this
      obtain ⟨b', off', e, hc⟩ := h4 j hjl
      injection e with e
      injection e with eb eo _
      subst eb eo
      rw [hc]
      rw [List.getElem?_map, List.getElem?_eq_getElem hjl] at hj
      injection hj with hj
      rw [← hj]
      have e2 : l.getD j 0 = l[j] := by simp [List.getD_eq_getElem?_getD, hjl]
      have := (u64_of' (h5 _ (List.getElem_mem hjl))).1
      rw [e2]
      show some (Value.int .u64 l[j]) = some (Value.int .u64 ((l[j].toNat : Nat) : Int))
      rw [← this]
    · have := in_blk hc
      subst this
      have := World.block_lt_of_cell? w _ hc0
      exact this
  · have hl : l = [] := List.length_eq_zero_iff.1 (by omega)
    subst hl
    exact ⟨a, 0, cap, [], rfl, rfl, h1, h2, .inr ⟨rfl, a, cap, rfl, h3⟩, (by intro x hx; cases hx), fun h => absurd h (by decide)⟩
theorem good_push {A : St2} {m : Int} (G : Good2 A m) {i : Nat} (hi : i ≤ 1) {l : List Nat} (hl : ∀ x ∈ l, x ≤ 18446744073709551615) (hk : l.length ≤ 100) : Good2 (A.put i (pushN (A.at i) l).1) (m + 100) := by
  obtain ⟨h1, h2, h3⟩ := pushN_n l (A.at i)
  have hh := pushN_h l (A.at i) (G.h i hi) hl
  have g0 := G.n 0 (by omega); have g1 := G.n 1 (by omega); have gs := G.sum
  refine ⟨h3.trans G.len, fun j hj => ?_, fun j hj => ?_, ?_⟩
  · show (if j = i then _ else A.hs j) ≤ _
    split
    · exact hh
    · exact G.h j hj
  · show 0 ≤ (if j = i then _ else A.ns j)
    split
    · have := G.n i hi; show 0 ≤ (pushN (A.at i) l).1.n; exact Int.le_trans this h1
    · exact G.n j hj
  · show (if 0 = i then (pushN (A.at i) l).1.n else A.ns 0) + (if 1 = i then (pushN (A.at i) l).1.n else A.ns 1) ≤ m + 100
    have : i = 0 ∨ i = 1 := by omega
    rcases this with rfl | rfl
    · rw [if_pos rfl, if_neg (by decide)]
      have : (A.at 0).n = A.ns 0 := rfl
      omega
    · rw [if_neg (by decide), if_pos rfl]
      have : (A.at 1).n = A.ns 1 := rfl
      omega
theorem good_pop {A : St2} {m : Int} (G : Good2 A m) (hb : MemMath.Byt A.L) {i : Nat} (hi : i ≤ 1) : Good2 (A.put i (popN (A.at i)).1) m := by
  have hp : (popN (A.at i)).1.L = A.L ∧ (popN (A.at i)).1.h ≤ 18446744073709551615 ∧ 0 ≤ (popN (A.at i)).1.n ∧ (popN (A.at i)).1.n ≤ A.ns i := by
    have hn := G.n i hi
    unfold popN
    by_cases h0 : (A.at i).n = 0
    · rw [if_pos h0]; exact ⟨rfl, G.h i hi, hn, Int.le_refl _⟩
    · rw [if_neg h0]
      have h0' : ¬ A.ns i = 0 := h0
      by_cases h8 : (A.at i).h + 8 ≤ (A.at i).L.length
      · rw [if_pos h8]; exact ⟨rfl, linkAt_le hb h8, by show 0 ≤ A.ns i - 1; omega, by show A.ns i - 1 ≤ _; omega⟩
      · rw [if_neg h8]; exact ⟨rfl, G.h i hi, hn, Int.le_refl _⟩
  obtain ⟨p1, p2, p3, p4⟩ := hp
  have g0 := G.n 0 (by omega); have g1 := G.n 1 (by omega); have gs := G.sum
  refine ⟨by show (popN (A.at i)).1.L.length = _; rw [p1]; exact G.len, fun j hj => ?_, fun j hj => ?_, ?_⟩
  · show (if j = i then _ else A.hs j) ≤ _
    split
    · exact p2
    · exact G.h j hj
  · show 0 ≤ (if j = i then _ else A.ns j)
    split
    · exact p3
    · exact G.n j hj
  · show (if 0 = i then (popN (A.at i)).1.n else A.ns 0) + (if 1 = i then (popN (A.at i)).1.n else A.ns 1) ≤ m
    have : i = 0 ∨ i = 1 := by omega
    rcases this with rfl | rfl
    · rw [if_pos rfl, if_neg (by decide)]; omega
    · rw [if_neg (by decide), if_pos rfl]; omega
def St2.joined (A : St2) (i i' : Nat) : St2 := A.put2 i (joinG A.L (A.hs i) (A.hs i') (A.ns i) (A.ns i')).1 (joinG A.L (A.hs i) (A.hs i') (A.ns i) (A.ns i')).2
theorem joinG_cases (L : List Nat) (lh oh : Nat) (ln on : Int) (hon : 0 ≤ on) : (joinG L lh oh ln on = (⟨L, lh, ln⟩, ⟨L, oh, on⟩)) ∨ (joinG L lh oh ln on = (⟨L, lh, ln⟩, ⟨L, 0, 0⟩)) ∨ ∃ z, z + 8 ≤ L.length ∧ joinG L lh oh ln on = (⟨MemMath.put8 L z lh, oh, ln + on⟩, ⟨MemMath.put8 L z lh, 0, 0⟩) := by
  unfold joinG
  cases hal : allN ⟨L, oh, on⟩ with
  | none => rw [joinN_none hal]; exact Or.inl rfl
  | some r =>
    by_cases hr : r = []
    · subst hr; rw [joinN_nil hal]; exact Or.inr (Or.inl rfl)
    · obtain ⟨c, z, _, _, e, h8, _⟩ := allN_last hal hon hr
      rw [joinN_cons hal hr, e]
      exact Or.inr (Or.inr ⟨z, h8, rfl⟩)
theorem good_join {A : St2} {m : Int} (G : Good2 A m) {i i' : Nat} (hi : i ≤ 1) (hi' : i' ≤ 1) (hne : i ≠ i') : Good2 (A.joined i i') m := by
  have g0 := G.n 0 (by omega); have g1 := G.n 1 (by omega); have gs := G.sum
  have gi := G.n i hi; have gi' := G.n i' hi'
  have hs : A.ns i + A.ns i' ≤ m := by
    have : (i = 0 ∧ i' = 1) ∨ (i = 1 ∧ i' = 0) := by omega
    rcases this with ⟨rfl, rfl⟩ | ⟨rfl, rfl⟩ <;> omega
  have key : ∀ S T : LS, S.L.length = 2048 → S.h ≤ 18446744073709551615 → T.h ≤ 18446744073709551615 → 0 ≤ S.n → 0 ≤ T.n → S.n + T.n ≤ m → Good2 (A.put2 i S T) m := by
    intro S T h1 h2 h3 h4 h5 h6
    refine ⟨h1, fun j _ => ?_, fun j _ => ?_, ?_⟩
    · show (if j = i then S.h else T.h) ≤ _
      split
      · exact h2
      · exact h3
    · show 0 ≤ (if j = i then S.n else T.n)
      split
      · exact h4
      · exact h5
    · show (if 0 = i then S.n else T.n) + (if 1 = i then S.n else T.n) ≤ m
      have : i = 0 ∨ i = 1 := by omega
      rcases this with rfl | rfl
      · rw [if_pos rfl, if_neg (by decide)]; exact h6
      · rw [if_neg (by decide), if_pos rfl]; omega
  unfold St2.joined
  rcases joinG_cases A.L (A.hs i) (A.hs i') (A.ns i) (A.ns i') gi' with e | e | ⟨z, h8, e⟩
  · rw [e]; exact key _ _ G.len (G.h i hi) (G.h i' hi') gi gi' hs
  · rw [e]; exact key _ _ G.len (G.h i hi) (by show 0 ≤ _; omega) gi (Int.le_refl _) (by show A.ns i + 0 ≤ m; omega)
  · rw [e]; exact key _ _ ((MemMath.length_put8 h8).trans G.len) (G.h i' hi') (by show 0 ≤ _; omega) (by show 0 ≤ A.ns i + A.ns i'; omega) (Int.le_refl _) (by show A.ns i + A.ns i' + 0 ≤ m; omega)
theorem good_lay {A : St2} {m : Int} (G : Good2 A m) {M : List Nat} (hM : M.length = 2048) : Good2 (A.lay M) m := ⟨hM, G.h, G.n, G.sum⟩
theorem Good2.mono {A : St2} {m m' : Int} (G : Good2 A m) (h : m ≤ m') : Good2 A m' := ⟨G.len, G.h, G.n, Int.le_trans G.sum h⟩
section
variable {w : World} {p g q h b7 b8 bc : Nat} {act : Array Value} {t : TypeId} {A B : St2} {m : Int}
theorem actA_push (C : LiG w) (G : Good2 A m) (hm : m ≤ 100000) {i : Nat} (hi : i ≤ 1) {a : Option Addr} {k cap : Nat} {l : List Nat} (hq : Seq Elem.u64s w (.slice a k cap) l) (hin : 0 < k → ∀ b, In (.slice a k cap) b → b < w.heap.size) (hk : k ≤ cap) (hcap : cap ≤ 9223372036854775807) (hx : ∀ x ∈ l, x ≤ 18446744073709551615) (hk2 : k ≤ 100) (w' : World) (s : BL w p g q h b7 b8 bc act t A B w') :
    Calls Try.prog 24 #[.pointer (some ⟨b7, i * 2, none⟩), .pointer (some ⟨p, 0, none⟩), .slice a k cap] w' fun e w2 => e = .returned (.int .i64 (pushN (A.at i) l).2) ∧ BL w p g q h b7 b8 bc act t (A.put i (pushN (A.at i) l).1) B w2 := by
  have gi := G.n i hi; have ge := G.each hi
  have hf := s.fp
  exact (C.push w' s.below (s.pl hi) (hq.below (Nat.le_refl _) s.below) (fun h0 b hb => by have := hin h0 b hb; omega) hk hcap hx (by omega) (G.h i hi) ⟨gi, by show A.ns i ≤ _; omega⟩).mono fun e w2 ⟨h1, h2, h3⟩ => ⟨h1, s.turnA hi h2 h3⟩
theorem actB_push (G : Good2 B m) (hm : m ≤ 100000) {i : Nat} (hi : i ≤ 1) {a : Option Addr} {k cap : Nat} {l : List Nat} (hq : Seq Elem.u64s w (.slice a k cap) l) (hin : 0 < k → ∀ b, In (.slice a k cap) b → b < w.heap.size) (hx : ∀ x ∈ l, x ≤ 18446744073709551615) (hk2 : k ≤ 100) (w' : World) (s : BL w p g q h b7 b8 bc act t A B w') :
    Calls Try.prog 25 #[.pointer (some ⟨b8, i * 2, none⟩), .pointer (some ⟨q, 0, none⟩), .slice a k cap] w' fun e w2 => e = .returned (.int .i64 (pushN (B.at i) l).2) ∧ BL w p g q h b7 b8 bc act t A (B.put i (pushN (B.at i) l).1) w2 := by
  have gi := G.n i hi; have ge := G.each hi
  have hf := s.fp
  exact (refl_push w' (s.rl hi) (hq.below (Nat.le_refl _) s.below) (fun h0 b hb => by have := hin h0 b hb; omega) hx (by omega) (G.h i hi) ⟨gi, by show B.ns i ≤ _; omega⟩).mono fun e w2 ⟨h1, h2, h3⟩ => ⟨h1, s.turnB hi h2 h3⟩
theorem actA_pop (C : LiG w) (G : Good2 A m) (hm : m ≤ 100000) {i : Nat} (hi : i ≤ 1) (w' : World) (s : BL w p g q h b7 b8 bc act t A B w') :
    Calls Try.prog 13 #[.pointer (some ⟨b7, i * 2, none⟩), .pointer (some ⟨p, 0, none⟩)] w' fun e w2 => e = .returned (.tuple #[.int .u64 ((popN (A.at i)).2.1 : Int), .int .i64 (popN (A.at i)).2.2]) ∧ BL w p g q h b7 b8 bc act t (A.put i (popN (A.at i)).1) B w2 := by
  have gi := G.n i hi; have ge := G.each hi
  exact (C.pop w' s.below (s.pl hi) (G.h i hi) ⟨gi, by show A.ns i ≤ _; omega⟩).mono fun e w2 ⟨h1, h2, h3⟩ => ⟨h1, s.turnA hi h2 (h3.mono (fun _ h => h.elim) (fun _ _ h => Or.inr h))⟩
theorem actB_pop (G : Good2 B m) (hm : m ≤ 100000) {i : Nat} (hi : i ≤ 1) (w' : World) (s : BL w p g q h b7 b8 bc act t A B w') :
    Calls Try.prog 14 #[.pointer (some ⟨b8, i * 2, none⟩), .pointer (some ⟨q, 0, none⟩)] w' fun e w2 => e = .returned (.tuple #[.int .u64 ((popN (B.at i)).2.1 : Int), .int .i64 (popN (B.at i)).2.2]) ∧ BL w p g q h b7 b8 bc act t A (B.put i (popN (B.at i)).1) w2 := by
  have gi := G.n i hi; have ge := G.each hi
  exact (refl_pop w' (s.rl hi) (G.h i hi) ⟨gi, by show B.ns i ≤ _; omega⟩).mono fun e w2 ⟨h1, h2, h3⟩ => ⟨h1, s.turnB hi h2 (h3.mono (fun _ h => h.elim) (fun _ _ h => Or.inr h))⟩
theorem actA_all (C : LiG w) (G : Good2 A m) (hm : m ≤ 100000) {i : Nat} (hi : i ≤ 1) (w' : World) (s : BL w p g q h b7 b8 bc act t A B w') :
    Calls Try.prog 15 #[.pointer (some ⟨b7, i * 2, none⟩), .pointer (some ⟨p, 0, none⟩)] w' fun e w2 => ∃ a k cap, e = .returned (.tuple #[.slice a k cap, .int .i64 (if (allN (A.at i)).isSome then 0 else 3)]) ∧ Seq Elem.u64s w2 (.slice a k cap) ((allN (A.at i)).getD []) ∧ k ≤ cap ∧ cap ≤ 9223372036854775807 ∧ Below w'.heap.size w' w2 ∧ BL w p g q h b7 b8 bc act t A B w2 := by
  have gi := G.n i hi; have ge := G.each hi
  exact (C.all w' s.below (s := A.at i) s.mem (s.l i hi) (G.h i hi) ⟨gi, by show A.ns i ≤ _; omega⟩).mono fun e w2 ⟨a, k, cap, h1, h2, h3, h4, _, h6⟩ => ⟨a, k, cap, h1, h2, h3, h4, h6, s.grew h6⟩
theorem actB_all (G : Good2 B m) (hm : m ≤ 100000) {i : Nat} (hi : i ≤ 1) (w' : World) (s : BL w p g q h b7 b8 bc act t A B w') :
    Calls Try.prog 16 #[.pointer (some ⟨b8, i * 2, none⟩), .pointer (some ⟨q, 0, none⟩)] w' fun e w2 => ∃ a k cap, e = .returned (.tuple #[.slice a k cap, .int .i64 (if (allN (B.at i)).isSome then 0 else 3)]) ∧ Seq Elem.u64s w2 (.slice a k cap) ((allN (B.at i)).getD []) ∧ k ≤ cap ∧ cap ≤ 9223372036854775807 ∧ Below w'.heap.size w' w2 ∧ BL w p g q h b7 b8 bc act t A B w2 := by
  have gi := G.n i hi; have ge := G.each hi
  exact (refl_all w' (s := B.at i) s.ref (s.k i hi) (G.h i hi) ⟨gi, by show B.ns i ≤ _; omega⟩).mono fun e w2 ⟨a, k, cap, h1, h2, h3, h4, _, h6⟩ => ⟨a, k, cap, h1, h2, h3, h4, h6, s.grew h6⟩
theorem aside2 {b i i' : Nat} (hne : i ≠ i') : Aside b (i * 2) b (i' * 2) := Or.inr (by omega)
theorem actA_join (C : LiG w) (G : Good2 A m) (hm : m ≤ 100000) {i i' : Nat} (hi : i ≤ 1) (hi' : i' ≤ 1) (hne : i ≠ i') (w' : World) (s : BL w p g q h b7 b8 bc act t A B w') :
    Calls Try.prog 18 #[.pointer (some ⟨b7, i * 2, none⟩), .pointer (some ⟨p, 0, none⟩), .pointer (some ⟨b7, i' * 2, none⟩)] w' fun e w2 => e = .returned (.int .i64 (if (joinN A.L (A.hs i) (A.ns i) (A.hs i') (A.ns i')).isSome then 0 else 3)) ∧ BL w p g q h b7 b8 bc act t (A.joined i i') B w2 := by
  have gi := G.n i hi; have ge := G.each hi
  have gi' := G.n i' hi'; have ge' := G.each hi'
  exact (C.join w' s.below s.mem (s.l i hi) (s.l i' hi') ⟨s.d7.1, s.d7.1⟩ ⟨s.d7.2.1, s.d7.2.1⟩ (aside2 hne) (G.h i hi) (G.h i' hi') ⟨gi, by omega⟩ ⟨gi', by omega⟩).mono fun e w2 ⟨h1, h2, h3, h4, h5⟩ => ⟨h1, s.both hi hi' hne (by
    rcases joinG_cases A.L (A.hs i) (A.hs i') (A.ns i) (A.ns i') gi' with e | e | ⟨z, _, e⟩ <;> rw [e]) h2 h3 h4 h5⟩
theorem actB_join (G : Good2 B m) (hm : m ≤ 100000) {i i' : Nat} (hi : i ≤ 1) (hi' : i' ≤ 1) (hne : i ≠ i') (w' : World) (s : BL w p g q h b7 b8 bc act t A B w') :
    Calls Try.prog 19 #[.pointer (some ⟨b8, i * 2, none⟩), .pointer (some ⟨q, 0, none⟩), .pointer (some ⟨b8, i' * 2, none⟩)] w' fun e w2 => e = .returned (.int .i64 (if (joinN B.L (B.hs i) (B.ns i) (B.hs i') (B.ns i')).isSome then 0 else 3)) ∧ BL w p g q h b7 b8 bc act t A (B.joined i i') w2 := by
  have gi := G.n i hi; have ge := G.each hi
  have gi' := G.n i' hi'; have ge' := G.each hi'
  exact (refl_join w' s.ref (s.k i hi) (s.k i' hi') ⟨s.d8.2.2.1, s.d8.2.2.1⟩ ⟨s.d8.2.2.2.1, s.d8.2.2.2.1⟩ (aside2 hne) (G.h i hi) (G.h i' hi') ⟨gi, by omega⟩ ⟨gi', by omega⟩).mono fun e w2 ⟨h1, h2, h3, h4, h5⟩ => ⟨h1, s.bothB hi hi' hne h2 h3 h4 h5⟩
theorem actA_self (C : LiG w) {i : Nat} (hi : i ≤ 1) (w' : World) (s : BL w p g q h b7 b8 bc act t A B w') :
    Calls Try.prog 18 #[.pointer (some ⟨b7, i * 2, none⟩), .pointer (some ⟨p, 0, none⟩), .pointer (some ⟨b7, i * 2, none⟩)] w' fun e w2 => e = .returned (.int .i64 2) ∧ BL w p g q h b7 b8 bc act t A B w2 :=
  (C.join_self w' s.below s.mem (s.l i hi)).mono fun e w2 ⟨h1, h2⟩ => ⟨h1, s.grew h2⟩
def laid (L : List Nat) (a x : Nat) : List Nat := if a + 8 ≤ L.length then MemMath.put8 L a x else L
theorem laid_len (L : List Nat) (a x : Nat) : (laid L a x).length = L.length := by
  unfold laid; split
  · rename_i h; exact MemMath.length_put8 h
  · rfl
theorem actA_store (hlen : A.L.length = 2048) {a x : Nat} (ha : a ≤ 18446744073709551615) (hx : x ≤ 18446744073709551615) (w' : World) (s : BL w p g q h b7 b8 bc act t A B w') :
    Calls Try.prog 20 #[.pointer (some ⟨p, 0, none⟩), .int .u64 (a : Int), .int .i64 8, .int .u64 (x : Int)] w' fun e w2 => e = .returned (.int .i64 (if a + 8 ≤ 2048 then 0 else 3)) ∧ BL w p g q h b7 b8 bc act t (A.lay (laid A.L a x)) B w2 := by
  unfold laid
  by_cases h8 : a + 8 ≤ 2048
  · rw [if_pos h8, if_pos (by omega)]
    exact (store_ok s.mem a 8 x (Or.inr (Or.inr (Or.inr rfl))) (by omega) hx (by omega)).mono fun e w2 ⟨h1, h2, h3⟩ => ⟨h1, s.layA h2 h3⟩
  · rw [if_neg h8, if_neg (by omega)]
    exact (store_out s.mem a 8 x (Or.inr (Or.inr (Or.inr rfl))) (by omega) hx (by omega)).mono fun e w2 ⟨h1, h2⟩ => ⟨h1, by subst h2; exact s.layA s.mem (Upd.refl _ _)⟩
theorem actB_store (hlen : B.L.length = 2048) {a x : Nat} (ha : a ≤ 18446744073709551615) (hx : x ≤ 18446744073709551615) (w' : World) (s : BL w p g q h b7 b8 bc act t A B w') :
    Calls Try.prog 21 #[.pointer (some ⟨q, 0, none⟩), .int .u64 (a : Int), .int .i64 8, .int .u64 (x : Int)] w' fun e w2 => e = .returned (.int .i64 (if a + 8 ≤ 2048 then 0 else 3)) ∧ BL w p g q h b7 b8 bc act t A (B.lay (laid B.L a x)) w2 := by
  have := ref_store w' s.ref a x ha hx
  rw [hlen] at this
  refine this.mono fun e w2 ⟨h1, h2, h3⟩ => ⟨h1, s.layB ?_ h3⟩
  unfold laid
  rw [hlen]
  exact h2
theorem actA_chain (C : LiG w) {a : Nat} {n : Int} (ha : a ≤ 18446744073709551615) (h1 : -9223372036854775808 ≤ n) (h2 : n ≤ 9223372036854775807) (w' : World) (s : BL w p g q h b7 b8 bc act t A B w') :
    Calls Try.prog 22 #[.pointer (some ⟨p, 0, none⟩), .int .u64 (a : Int), .int .i64 n] w' fun e w2 => e = .returned (.tuple #[.agg (if (chainN A.L a n).isSome then lsC a (((chainN A.L a n).getD []).length : Int) else lsC 0 0), .int .i64 (if (chainN A.L a n).isSome then 0 else 3)]) ∧ Below w'.heap.size w' w2 ∧ BL w p g q h b7 b8 bc act t A B w2 :=
  (C.chain w' s.below s.mem ha h1 h2).mono fun e w2 ⟨x, y⟩ => ⟨x, y, s.grew y⟩
theorem actB_chain {a : Nat} {n : Int} (ha : a ≤ 18446744073709551615) (h1 : -9223372036854775808 ≤ n) (h2 : n ≤ 9223372036854775807) (w' : World) (s : BL w p g q h b7 b8 bc act t A B w') :
    Calls Try.prog 23 #[.pointer (some ⟨q, 0, none⟩), .int .u64 (a : Int), .int .i64 n] w' fun e w2 => ∃ b cap, e = .returned (.tuple #[.slice b ((chainN B.L a n).getD []).length cap, .bool (chainN B.L a n).isSome]) ∧ Below w'.heap.size w' w2 ∧ BL w p g q h b7 b8 bc act t A B w2 :=
  (refl_row w' s.ref a ha n h1 h2).mono fun e w2 ⟨b, k, cap, x, y, _, _, _, z⟩ => ⟨b, cap, by rw [← y.len]; exact x, z, s.grew z⟩
end
end Go.Proofs.Ytmnnmgphiiedgaa
