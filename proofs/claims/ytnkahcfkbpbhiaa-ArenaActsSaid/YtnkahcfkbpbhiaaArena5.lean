/- The arena (layer 4): its contracts, whatever it is called with. -/
import Derived.Test.YtnkahcfkbpbhiaaArena4
namespace Go.Proofs.Ytnkahcfkbpbhiaa
open Go.RowKit ArenaMath
set_option linter.unusedVariables false

/-- An arena at q, whose blocks are own. -/
def IsArena (w : World) (q : Nat) (own : Nat → Prop) (s : St) : Prop :=
  ∃ p g rb tv R L, Raw w q p g rb tv s.S s.lim s.T s.r R L ∧ Fits s.S s.l R L ∧ ArenaMath.Good s ∧ ∀ k, own k ↔ Mine q p g rb tv k
def Became (w : World) (q : Nat) (own : Nat → Prop) (s : St) (w' : World) : Prop :=
  (∃ own', IsArena w' q own' s ∧ ∀ k, own' k → own k ∨ w.heap.size ≤ k) ∧ Upd own w w'
theorem IsArena.good {w : World} {q : Nat} {own : Nat → Prop} {s : St} (h : IsArena w q own s) : ArenaMath.Good s := by obtain ⟨_, _, _, _, _, _, _, _, h, _⟩ := h; exact h
theorem IsArena.lt {w : World} {q : Nat} {own : Nat → Prop} {s : St} (h : IsArena w q own s) {k : Nat} (hk : own k) : k < w.heap.size := by
  obtain ⟨p, g, rb, tv, R, L, h, _, _, ho⟩ := h
  exact h.lt ((ho k).1 hk)
theorem IsArena.upd {S : Nat → Prop} {w w' : World} {q : Nat} {own : Nat → Prop} {s : St} (h : IsArena w q own s) (u : Upd S w w') (hS : ∀ k, own k → ¬ S k) : IsArena w' q own s := by
  obtain ⟨p, g, rb, tv, R, L, h, hf, hg, ho⟩ := h
  exact ⟨p, g, rb, tv, R, L, h.upd u (fun k hk => hS k ((ho k).2 hk)), hf, hg, ho⟩
theorem IsArena.alloc {w : World} {q : Nat} {own : Nat → Prop} {s : St} (h : IsArena w q own s) (o : Obj) : IsArena (w.alloc o) q own s := h.upd ((Upd.refl (fun _ => False) w).alloc o) (fun _ _ => id)
theorem IsArena.drew {w : World} {q : Nat} {own : Nat → Prop} {s : St} (h : IsArena w q own s) : IsArena w.drew q own s := h.upd ((Upd.refl (fun _ => False) w).drew) (fun _ _ => id)
theorem IsArena.grew {w w' : World} {q : Nat} {own : Nat → Prop} {s : St} (h : IsArena w q own s) (hb : Below w.heap.size w w') : IsArena w' q own s := h.upd (updFalse_of hb) (fun _ _ => id)
theorem Became.same {w : World} {q : Nat} {own : Nat → Prop} {s : St} (h : IsArena w q own s) : Became w q own s w := ⟨⟨own, h, fun k h => .inl h⟩, Upd.refl _ _⟩
theorem Became.of {w w' : World} {q p g rb : Nat} {tv : Value} {R : List Nat} {L : List Bool} {own : Nat → Prop} {s : St} (ho : ∀ k, own k ↔ Mine q p g rb tv k)
    (h : Now w q p g rb tv s.S s.lim s.T s.r R L w') (hf : Fits s.S s.l R L) (hg : ArenaMath.Good s) : Became w q own s w' := by
  obtain ⟨tv', hr, hi, u⟩ := h
  refine ⟨⟨Mine q p g rb tv', ⟨p, g, rb, tv', R, L, hr, hf, hg, fun k => Iff.rfl⟩, fun k hk => ?_⟩, u.mono (fun k hk => (ho k).2 hk)⟩
  rcases hk with hk | hk | hk | hk | hk
  · exact .inl ((ho k).2 (.inl hk))
  · exact .inl ((ho k).2 (.inr (.inl hk)))
  · exact .inl ((ho k).2 (.inr (.inr (.inl hk))))
  · exact .inl ((ho k).2 (.inr (.inr (.inr (.inl hk)))))
  · rcases hi k hk with h | h
    · exact .inl ((ho k).2 (.inr (.inr (.inr (.inr h)))))
    · exact .inr h

theorem isArena_new {w w' : World} {S lim : Nat} {e : Ending} (h1 : 1 ≤ S) (h2 : S ≤ 64) (h3 : lim ≤ S) (h : NewOut w S lim e w') :
    ∃ q own, e = .returned (.tuple #[.pointer (some ⟨q, 0, none⟩), .int .i64 0]) ∧ IsArena w' q own ⟨S, lim, [], [], 0⟩ ∧ (∀ k, own k → w.heap.size ≤ k) ∧ Upd (fun _ => False) w w' := by
  obtain ⟨q, p, g, rb, rfl, hr, hn, hu⟩ := h
  exact ⟨q, Mine q p g rb (.slice none 0 0), rfl, ⟨p, g, rb, _, _, _, hr, Fits.new S, ⟨h1, h2, h3, Ok.nil S, by simp [total], by simp⟩, fun k => Iff.rfl⟩, hn, hu⟩

section
variable {w : World} {q : Nat} {own : Nat → Prop} {s : St}
theorem refused_any (h : IsArena w q own s) : Calls Try.prog 22 #[.pointer (some ⟨q, 0, none⟩)] w fun e w' => e = .returned (.int .i64 (s.r : Int)) ∧ w = w' := by
  obtain ⟨p, g, rb, tv, R, L, h, _, _, _⟩ := h
  exact refused_raw h
theorem given_any (h : IsArena w q own s) : Calls Try.prog 20 #[.pointer (some ⟨q, 0, none⟩)] w fun e w' => e = .returned (.int .i64 (total s.l : Int)) ∧ Below w.heap.size w w' := by
  obtain ⟨p, g, rb, tv, R, L, h, hf, hg, _⟩ := h
  exact given_raw h (total s.l) hf.left hg.S2
theorem regions_any (h : IsArena w q own s) : Calls Try.prog 23 #[.pointer (some ⟨q, 0, none⟩)] w fun e w' => ∃ v, e = .returned v ∧ Vec Elem.pairs w' v s.l ∧ (∀ b, In v b → w.heap.size ≤ b) ∧ Below w.heap.size w w' := by
  obtain ⟨p, g, rb, tv, R, L, h, hf, hg, _⟩ := h
  exact regions_raw h hf hg.S2
theorem refuse_any (h : IsArena w q own s) {v : Value} {m : List Bool} (hv : Seq Elem.bools w v m) :
    Calls Try.prog 14 #[.pointer (some ⟨q, 0, none⟩), v] w fun e w' => e = .returned (.int .i64 (refuse s m).1) ∧ Became w q own (refuse s m).2 w' := by
  have hA := h
  obtain ⟨p, g, rb, tv, R, L, h, hf, hg, ho⟩ := h
  by_cases hm : 1000 < s.T.length + m.length
  · refine (refuse_raw_full h hg.told hv hm).mono ?_
    rintro e w' ⟨rfl, rfl⟩
    unfold refuse
    rw [if_pos hm]
    exact ⟨rfl, Became.same hA⟩
  · have := good_refuse hg m
    unfold refuse at this ⊢
    rw [if_neg hm] at this ⊢
    refine ((Now.start h).refuse hg.told hv (by omega)).mono ?_
    rintro e w' ⟨rfl, hn⟩
    exact ⟨rfl, Became.of (s := { s with T := s.T ++ m }) ho hn hf this⟩
theorem release_any (h : IsArena w q own s) (a : Int) :
    Calls Try.prog 12 #[.pointer (some ⟨q, 0, none⟩), .int .i64 a] w fun e w' => e = .returned (.int .i64 (release s a).1) ∧ Became w q own (release s a).2 w' := by
  have hA := h
  obtain ⟨p, g, rb, tv, R, L, h, hf, hg, ho⟩ := h
  by_cases hh : has s a
  · have hgd := good_release hg a
    unfold release at hgd ⊢
    rw [if_pos hh] at hgd ⊢
    obtain ⟨h0, ⟨x1, n⟩, hx, e⟩ := hh
    obtain ⟨a, rfl⟩ := Int.eq_ofNat_of_zero_le h0
    have hxa : x1 = a := by simpa using e
    subst hxa
    have hb := hf.ok.2 _ hx
    simp only at hb
    refine (release_yes h x1 n hg.S2 hb.1 hb.2 ((hf.reg x1 n hb.1).2 hx) (hf.taken hx)).mono ?_
    rintro e w' ⟨rfl, hn⟩
    exact ⟨rfl, Became.of (s := { s with l := del s.l x1 }) ho hn (hf.del hx) hgd⟩
  · have hno : ∀ j : Nat, a = (j : Int) → j < s.S → R.getD j 0 = 0 := by
      rintro j rfl hj
      rcases Nat.eq_zero_or_pos (R.getD j 0) with h0 | h0
      · exact h0
      · exact absurd ⟨by omega, (j, R.getD j 0), (hf.reg j _ h0).1 rfl, by simp⟩ hh
    refine (release_no h a hg.S2 hno).mono ?_
    rintro e w' ⟨rfl, rfl⟩
    unfold release
    rw [if_neg hh]
    exact ⟨rfl, Became.same hA⟩
theorem reserve_any (h : IsArena w q own s) (n : Int) (hr : s.r ≤ 1000000000000) :
    Calls Try.prog 16 #[.pointer (some ⟨q, 0, none⟩), .int .i64 n] w fun e w' => e = .returned (.tuple #[.int .i64 (reserve s n).1, .int .i64 (reserve s n).2.1]) ∧ Became w q own (reserve s n).2.2 w' := by
  have hA := h
  obtain ⟨p, g, rb, tv, R, L, h, hf, hg, ho⟩ := h
  by_cases hfar : far s n
  · rw [reserve_far hfar]
    refine (reserve_out h n hg.S2 hfar).mono ?_
    rintro e w' ⟨rfl, rfl⟩
    exact ⟨rfl, Became.same hA⟩
  · have hn : 1 ≤ n ∧ n ≤ (s.S : Int) := Decidable.not_not.1 hfar
    obtain ⟨k, rfl⟩ := Int.eq_ofNat_of_zero_le (show 0 ≤ n by omega)
    have h1 : 1 ≤ k := by omega
    have h2 : k ≤ s.S := by omega
    have hleft := hf.left
    by_cases ht : s.T.headD false = true
    · rw [reserve_no h1 h2 (.inl ht)]
      refine (reserve_told h k h1 h2 hg.S2 hg.told hr ht).mono ?_
      rintro e w' ⟨rfl, hn⟩
      exact ⟨rfl, Became.of (s := s.no) ho hn hf hg.no⟩
    · have ht : s.T.headD false = false := by simpa using ht
      by_cases hl : s.lim < total s.l + k
      · rw [reserve_no h1 h2 (.inr hl)]
        refine (reserve_over h k h1 h2 hg.S2 hg.lim hg.told hr ht (total s.l) hleft (by omega)).mono ?_
        rintro e w' ⟨rfl, hn⟩
        exact ⟨rfl, Became.of (s := s.no) ho hn hf hg.no⟩
      · cases hs : spot s.S s.l k with
        | none =>
          rw [ArenaMath.reserve_none h1 h2 hs]
          refine (reserve_full h k h1 h2 hg.S2 hg.lim hg.told hr ht (total s.l) hleft (by omega) hf.lenL (by rw [hf.low h1, hs])).mono ?_
          rintro e w' ⟨rfl, hn⟩
          exact ⟨rfl, Became.of (s := s.no) ho hn hf hg.no⟩
        | some a =>
          obtain ⟨g1, g2, g3⟩ := spot_some hs
          rw [ArenaMath.reserve_some h1 h2 ht (by omega) hs]
          refine (reserve_yes h k h1 h2 hg.S2 hg.lim hg.told ht (total s.l) hleft (by omega) hf.lenL a g1 (by rw [hf.low h1, hs])).mono ?_
          rintro e w' ⟨rfl, hn⟩
          exact ⟨rfl, Became.of (s := s.give a k) ho hn (hf.put h1 g1 g2) (hg.give h1 (by omega) hs)⟩
end

/-! ### An arena that a law made itself, in the world w0 -/
def Lives (w0 : World) (q : Nat) (s : St) (w' : World) : Prop := ∃ own, IsArena w' q own s ∧ (∀ k, own k → w0.heap.size ≤ k) ∧ Below w0.heap.size w0 w'
section
variable {w0 w w' : World} {q : Nat} {s s' : St}
theorem Lives.good (h : Lives w0 q s w) : ArenaMath.Good s := by obtain ⟨_, h, _⟩ := h; exact h.good
theorem Lives.below (h : Lives w0 q s w) : Below w0.heap.size w0 w := by obtain ⟨_, _, _, h⟩ := h; exact h
theorem Lives.size (h : Lives w0 q s w) : w0.heap.size ≤ w.heap.size := h.below.size
theorem Lives.drew (h : Lives w0 q s w) : Lives w0 q s w.drew := by obtain ⟨own, h, ho, hb⟩ := h; exact ⟨own, h.drew, ho, hb.drew⟩
theorem Lives.alloc (h : Lives w0 q s w) (o : Obj) : Lives w0 q s (w.alloc o) := by obtain ⟨own, h, ho, hb⟩ := h; exact ⟨own, h.alloc o, ho, hb.alloc hb.size o⟩
theorem Lives.grew (h : Lives w0 q s w) (k : Below w.heap.size w w') : Lives w0 q s w' := by obtain ⟨own, h, ho, hb⟩ := h; exact ⟨own, h.grew k, ho, hb.trans (k.mono hb.size)⟩
theorem Lives.start {own : Nat → Prop} (h : IsArena w q own s) (ho : ∀ k, own k → w0.heap.size ≤ k) (hb : Below w0.heap.size w0 w) : Lives w0 q s w := ⟨own, h, ho, hb⟩
theorem Lives.refused (h : Lives w0 q s w) : Calls Try.prog 22 #[.pointer (some ⟨q, 0, none⟩)] w fun e w' => e = .returned (.int .i64 (s.r : Int)) ∧ w = w' := by obtain ⟨own, h, ho, hb⟩ := h; exact refused_any h
theorem Lives.given (h : Lives w0 q s w) : Calls Try.prog 20 #[.pointer (some ⟨q, 0, none⟩)] w fun e w' => e = .returned (.int .i64 (total s.l : Int)) ∧ Lives w0 q s w' := by
  have hL := h
  obtain ⟨own, h, ho, hb⟩ := h
  exact (given_any h).mono fun e w' k => ⟨k.1, hL.grew k.2⟩
theorem Lives.regions (h : Lives w0 q s w) : Calls Try.prog 23 #[.pointer (some ⟨q, 0, none⟩)] w fun e w' => ∃ v, e = .returned v ∧ Vec Elem.pairs w' v s.l ∧ Lives w0 q s w' := by
  have hL := h
  obtain ⟨own, h, ho, hb⟩ := h
  refine (regions_any h).mono ?_
  rintro e w' ⟨v, rfl, hv, _, k⟩
  exact ⟨v, rfl, hv, hL.grew k⟩
theorem Lives.became {own : Nat → Prop} (ho : ∀ k, own k → w0.heap.size ≤ k) (hb : Below w0.heap.size w0 w) (h : Became w q own s' w') : Lives w0 q s' w' := by
  obtain ⟨⟨own', h, hi⟩, u⟩ := h
  refine ⟨own', h, fun k hk => ?_, hb.trans (u.below ho hb.size)⟩
  rcases hi k hk with h | h
  · exact ho k h
  · exact Nat.le_trans hb.size h
theorem Lives.refuse (h : Lives w0 q s w) {v : Value} {m : List Bool} (hv : Seq Elem.bools w v m) : Calls Try.prog 14 #[.pointer (some ⟨q, 0, none⟩), v] w fun e w' => e = .returned (.int .i64 (refuse s m).1) ∧ Lives w0 q (refuse s m).2 w' := by
  obtain ⟨own, h, ho, hb⟩ := h
  exact (refuse_any h hv).mono fun e w' k => ⟨k.1, Lives.became ho hb k.2⟩
theorem Lives.release (h : Lives w0 q s w) (a : Int) : Calls Try.prog 12 #[.pointer (some ⟨q, 0, none⟩), .int .i64 a] w fun e w' => e = .returned (.int .i64 (release s a).1) ∧ Lives w0 q (release s a).2 w' := by
  obtain ⟨own, h, ho, hb⟩ := h
  exact (release_any h a).mono fun e w' k => ⟨k.1, Lives.became ho hb k.2⟩
theorem Lives.reserve (h : Lives w0 q s w) (n : Int) (hr : s.r ≤ 1000000000000) : Calls Try.prog 16 #[.pointer (some ⟨q, 0, none⟩), .int .i64 n] w fun e w' => e = .returned (.tuple #[.int .i64 (reserve s n).1, .int .i64 (reserve s n).2.1]) ∧ Lives w0 q (reserve s n).2.2 w' := by
  obtain ⟨own, h, ho, hb⟩ := h
  exact (reserve_any h n hr).mono fun e w' k => ⟨k.1, Lives.became ho hb k.2⟩
end
theorem lives_new (S lim : Nat) (h1 : 1 ≤ S) (h2 : S ≤ 64) (h3 : lim ≤ S) {w0 w : World} (hb : Below w0.heap.size w0 w) : Calls Try.prog 10 #[.int .i64 (S : Int), .int .i64 (lim : Int)] w fun e w' =>
    ∃ q, e = .returned (.tuple #[.pointer (some ⟨q, 0, none⟩), .int .i64 0]) ∧ Lives w0 q ⟨S, lim, [], [], 0⟩ w' := by
  refine (arena_new S lim h1 h2 h3 w).mono ?_
  intro e w' h
  obtain ⟨q, own, rfl, hA, ho, hu⟩ := isArena_new h1 h2 h3 h
  exact ⟨q, rfl, own, hA, fun k hk => Nat.le_trans hb.size (ho k hk), hb.trans (below_false hu hb.size)⟩

/-! ### alive -/
set_option maxHeartbeats 400000 in
theorem alive_any (w : World) : Calls Try.prog 9 #[] w fun e w' => e = .returned (.bool true) ∧ Below w.heap.size w w' := by
  have e1 : ArenaMath.reserve ⟨4, 3, [], [], 0⟩ 2 = (0, 0, ⟨4, 3, [(0, 2)], [], 0⟩) := by rfl
  have e2 : ArenaMath.reserve ⟨4, 3, [(0, 2)], [], 0⟩ 2 = (0, 4, ⟨4, 3, [(0, 2)], [], 1⟩) := by rfl
  have e3 : ArenaMath.reserve ⟨4, 3, [(0, 2)], [], 1⟩ 1 = (2, 0, ⟨4, 3, [(0, 2), (2, 1)], [], 1⟩) := by rfl
  have E1 := Lib.hid e1; have E2 := Lib.hid e2; have E3 := Lib.hid e3
  clear e1 e2 e3
  go_enter Try.func9, Try.ntmps9
  go_wp2_with fail
  refine (lives_new 4 3 (by decide) (by decide) (by decide) (Below.refl _ w)).mono ?_; rintro e w1 ⟨q, rfl, h⟩
  have S1 := Lib.hid h
  clear h
  go_wp2_with fail
  refine (S1.out.reserve 2 (by decide)).mono ?_; rw [E1.out]; rintro e w2 ⟨rfl, h⟩
  have S2 := Lib.hid h
  clear h
  go_wp2_with fail
  refine (S2.out.reserve 2 (by decide)).mono ?_; rw [E2.out]; rintro e w3 ⟨rfl, h⟩
  have S3 := Lib.hid h
  clear h
  go_wp2_with fail
  refine (S3.out.reserve 1 (by decide)).mono ?_; rw [E3.out]; rintro e w4 ⟨rfl, h⟩
  have S4 := Lib.hid h
  clear h
  go_wp2_with fail
  refine (S4.out.given).mono ?_; rintro e w5 ⟨rfl, h⟩
  have S5 := Lib.hid h
  clear h
  go_wp2_with fail
  refine (S5.out.refused).mono ?_; rintro e w6 ⟨rfl, rfl⟩
  go_wp2_with fail
  refine (release_nil _ _).mono ?_; rintro e w7 ⟨rfl, rfl⟩
  go_wp2
  go_ret
  exact ⟨rfl, S5.out.below⟩
end Go.Proofs.Ytnkahcfkbpbhiaa
