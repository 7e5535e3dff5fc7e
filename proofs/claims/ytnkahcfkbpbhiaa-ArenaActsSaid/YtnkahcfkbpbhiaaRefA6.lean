/- The document's own arena, whatever it is called with; both arenas beside each other. -/
import Derived.Test.YtnkahcfkbpbhiaaRefA2
import Derived.Test.YtnkahcfkbpbhiaaRefA3
import Derived.Test.YtnkahcfkbpbhiaaRefA5
namespace Go.Proofs.Ytnkahcfkbpbhiaa
open Go.RowKit ArenaMath
set_option linter.unusedVariables false

section
variable {w w' : World} {h : Nat} {s : St} {lv tv : Value}
theorem RefTo.grew (r : RefIs w h s lv tv) (hb : Below w.heap.size w w') : RefTo w h lv tv s w' := ⟨⟨lv, tv, r.grew hb, fun k h => .inl h, fun k h => .inl h⟩, (updFalse_of hb).mono (fun k hk => hk.elim)⟩
theorem ref_refuse_any (r : RefIs w h s lv tv) (hg : ArenaMath.Good s) {v : Value} {m : List Bool} (hv : Seq Elem.bools w v m) (hm : m.length ≤ 2000) :
    Calls Try.prog 15 #[.pointer (some ⟨h, 0, none⟩), v] w fun e w' => e = .returned (.int .i64 (refuse s m).1) ∧ RefTo w h lv tv (refuse s m).2 w' := by
  unfold refuse
  by_cases hc : 1000 < s.T.length + m.length
  · rw [if_pos hc]
    refine (ref_refuse_full r hg.told hv hc hm).mono ?_
    rintro e w' ⟨rfl, rfl⟩
    exact ⟨rfl, RefTo.same r⟩
  · rw [if_neg hc]
    exact ref_refuse_ok r hg.told hv (by omega)
theorem ref_release_any (r : RefIs w h s lv tv) (hg : ArenaMath.Good s) (a : Int) :
    Calls Try.prog 13 #[.pointer (some ⟨h, 0, none⟩), .int .i64 a] w fun e w' => e = .returned (.int .i64 (release s a).1) ∧ RefTo w h lv tv (release s a).2 w' := by
  unfold release
  by_cases hc : has s a
  · rw [if_pos hc]
    obtain ⟨h0, ⟨x1, n⟩, hx, e⟩ := hc
    obtain ⟨a, rfl⟩ := Int.eq_ofNat_of_zero_le h0
    have hxa : x1 = a := by simpa using e
    subst hxa
    exact ref_release_yes r hg x1 n hx
  · rw [if_neg hc]
    refine (ref_release_no r hg a (fun x hx e => hc ⟨by omega, x, hx, by omega⟩)).mono ?_
    rintro e w' ⟨rfl, hb⟩
    exact ⟨rfl, RefTo.grew r hb⟩
theorem ref_reserve_any (r : RefIs w h s lv tv) (hg : ArenaMath.Good s) (n : Int) (hr : s.r ≤ 1000000000000) :
    Calls Try.prog 17 #[.pointer (some ⟨h, 0, none⟩), .int .i64 n] w fun e w' => e = .returned (.tuple #[.int .i64 (reserve s n).1, .int .i64 (reserve s n).2.1]) ∧ RefTo w h lv tv (reserve s n).2.2 w' := by
  by_cases hfar : far s n
  · rw [reserve_far hfar]
    refine (ref_reserve_far r hg n hfar).mono ?_
    rintro e w' ⟨rfl, rfl⟩
    exact ⟨rfl, RefTo.same r⟩
  · have hn : 1 ≤ n ∧ n ≤ (s.S : Int) := Decidable.not_not.1 hfar
    obtain ⟨k, rfl⟩ := Int.eq_ofNat_of_zero_le (show 0 ≤ n by omega)
    have h1 : 1 ≤ k := by omega
    have h2 : k ≤ s.S := by omega
    rcases hT : s.T with _ | ⟨b, T⟩
    · have hd : s.T.headD false = false := by rw [hT]; rfl
      by_cases ho : s.lim < total s.l + k
      · rw [reserve_no h1 h2 (.inr ho)]
        exact ref_reserve_over r hg k h1 h2 hr hd ho
      · exact ref_reserve_nil r hg k h1 h2 hr hd (by omega) _ _ _ rfl hT
    · cases b with
      | true =>
        rw [reserve_no h1 h2 (.inl (by rw [hT]; rfl))]
        exact ref_reserve_told r hg k h1 h2 hr T hT
      | false =>
        have hd : s.T.headD false = false := by rw [hT]; rfl
        by_cases ho : s.lim < total s.l + k
        · rw [reserve_no h1 h2 (.inr ho)]
          exact ref_reserve_over r hg k h1 h2 hr hd ho
        · exact ref_reserve_cons r hg k h1 h2 hr hd (by omega) _ _ _ rfl T hT
end

/-! ### Both -/
def Two (w0 : World) (q h : Nat) (s t : St) (w' : World) : Prop :=
  ∃ own lv tv, IsArena w' q own s ∧ RefIs w' h t lv tv ∧ (∀ k, own k → w0.heap.size ≤ k) ∧ w0.heap.size ≤ h ∧ (∀ k, own k → k ≠ h ∧ ¬ In lv k ∧ ¬ In tv k) ∧ Below w0.heap.size w0 w'
/-- And the act that is done. -/
def Both (w0 : World) (q h bb : Nat) (cs : Array Value) (s t : St) (w' : World) : Prop :=
  ∃ own lv tv, IsArena w' q own s ∧ RefIs w' h t lv tv ∧ (∀ k, own k → w0.heap.size ≤ k) ∧ w0.heap.size ≤ h ∧ (∀ k, own k → k ≠ h ∧ ¬ In lv k ∧ ¬ In tv k) ∧ Below w0.heap.size w0 w' ∧ Blk w' bb 33 cs ∧ ¬ own bb ∧ bb ≠ h
section
variable {w0 w' w2 : World} {q h bb : Nat} {cs : Array Value} {s t s2 t2 : St}
theorem Two.below (b : Two w0 q h s t w') : Below w0.heap.size w0 w' := by obtain ⟨_, _, _, _, _, _, _, _, b⟩ := b; exact b
theorem Both.below (b : Both w0 q h bb cs s t w') : Below w0.heap.size w0 w' := by obtain ⟨_, _, _, _, _, _, _, _, b, _⟩ := b; exact b
theorem Both.good (b : Both w0 q h bb cs s t w') : ArenaMath.Good s := by obtain ⟨_, _, _, b, _⟩ := b; exact b.good
theorem Two.good (b : Two w0 q h s t w') : ArenaMath.Good s := by obtain ⟨_, _, _, b, _⟩ := b; exact b.good
theorem Both.two (b : Both w0 q h bb cs s t w') : Two w0 q h s t w' := by
  obtain ⟨own, lv, tv, hA, hR, h1, h2, h3, hb, _⟩ := b
  exact ⟨own, lv, tv, hA, hR, h1, h2, h3, hb⟩
theorem Both.cell (b : Both w0 q h bb cs s t w') (j : Nat) : w'.cell? ⟨bb, j, none⟩ = cs[j]? := by obtain ⟨_, _, _, _, _, _, _, _, _, b, _⟩ := b; exact b.cell j
theorem Two.both (b : Two w0 q h s t w') (cs : Array Value) (hbb : w'.heap.size = bb) : Both w0 q h bb cs s t (w'.alloc (.cells cs 33)) := by
  obtain ⟨own, lv, tv, hA, hR, h1, h2, h3, hb⟩ := b
  refine ⟨own, lv, tv, hA.alloc _, hR.alloc _, h1, h2, h3, hb.alloc hb.size _, by rw [← hbb]; exact Blk.new w' _ _, fun hk => ?_, fun e => ?_⟩
  · have := hA.lt hk; omega
  · have := hR.head.lt; omega
theorem Both.drew (b : Both w0 q h bb cs s t w') : Both w0 q h bb cs s t w'.drew := by
  obtain ⟨own, lv, tv, hA, hR, h1, h2, h3, hb, hB, h4, h5⟩ := b
  exact ⟨own, lv, tv, hA.drew, hR.drew, h1, h2, h3, hb.drew, hB.drew, h4, h5⟩
theorem Both.drewN (b : Both w0 q h bb cs s t w') (n : Nat) : Both w0 q h bb cs s t (w'.drewN n) := by
  obtain ⟨own, lv, tv, hA, hR, h1, h2, h3, hb, hB, h4, h5⟩ := b
  have hb0 : Below w'.heap.size w' (w'.drewN n) := ⟨rfl, rfl, rfl, Nat.le_refl _, fun _ _ => rfl⟩
  exact ⟨own, lv, tv, hA.grew hb0, hR.grew hb0, h1, h2, h3, hb.trans (hb0.mono hb.size), hB.upd (updFalse_of hb0) id, h4, h5⟩
theorem Two.grew (b : Two w0 q h s t w') (hb0 : Below w'.heap.size w' w2) : Two w0 q h s t w2 := by
  obtain ⟨own, lv, tv, hA, hR, h1, h2, h3, hb⟩ := b
  exact ⟨own, lv, tv, hA.grew hb0, hR.grew hb0, h1, h2, h3, hb.trans (hb0.mono hb.size)⟩
theorem both_arena {own : Nat → Prop} {lv tv : Value} (hA : IsArena w' q own s) (hR : RefIs w' h t lv tv) (h1 : ∀ k, own k → w0.heap.size ≤ k) (h2 : w0.heap.size ≤ h) (h3 : ∀ k, own k → k ≠ h ∧ ¬ In lv k ∧ ¬ In tv k) (hb : Below w0.heap.size w0 w') (hB : Blk w' bb 33 cs) (h4 : ¬ own bb) (h5 : bb ≠ h)
    (k : Became w' q own s2 w2) : Both w0 q h bb cs s2 t w2 := by
  obtain ⟨⟨own', hA', hi⟩, u⟩ := k
  refine ⟨own', lv, tv, hA', hR.upd u (fun hk => (h3 _ hk).1 rfl) (fun k hk ho => (h3 _ ho).2.1 hk) (fun k hk ho => (h3 _ ho).2.2 hk), fun k hk => ?_, h2, fun k hk => ?_, hb.trans (u.below h1 hb.size), hB.upd u h4, fun hk => ?_, h5⟩
  · rcases hi k hk with x | x
    · exact h1 k x
    · exact Nat.le_trans hb.size x
  · rcases hi k hk with x | x
    · exact h3 k x
    · refine ⟨fun e => ?_, fun hl => ?_, fun ht => ?_⟩
      · have := hR.head.lt; omega
      · have := hR.list.lt hl; omega
      · have := hR.told.lt ht; omega
  · rcases hi bb hk with x | x
    · exact h4 x
    · have := hB.lt; omega
theorem both_ref {own : Nat → Prop} {lv tv : Value} (hA : IsArena w' q own s) (hR : RefIs w' h t lv tv) (h1 : ∀ k, own k → w0.heap.size ≤ k) (h2 : w0.heap.size ≤ h) (h3 : ∀ k, own k → k ≠ h ∧ ¬ In lv k ∧ ¬ In tv k) (hb : Below w0.heap.size w0 w') (hB : Blk w' bb 33 cs) (h4 : ¬ own bb) (h5 : bb ≠ h)
    (k : RefTo w' h lv tv t2 w2) : Both w0 q h bb cs s t2 w2 := by
  obtain ⟨⟨lv', tv', hR', hl, ht⟩, u⟩ := k
  refine ⟨own, lv', tv', hA.upd u (fun k hk e => (h3 k hk).1 e), hR', h1, h2, fun k hk => ⟨(h3 k hk).1, fun x => ?_, fun x => ?_⟩, hb.trans (u.below (fun k e => by omega) hb.size), hB.upd u h5, h4, h5⟩
  · rcases hl k x with y | y
    · exact (h3 k hk).2.1 y
    · have := hA.lt hk; omega
  · rcases ht k x with y | y
    · exact (h3 k hk).2.2 y
    · have := hA.lt hk; omega
theorem both_release_a (b : Both w0 q h bb cs s t w') (a : Int) : Calls Try.prog 12 #[.pointer (some ⟨q, 0, none⟩), .int .i64 a] w' fun e w2 => e = .returned (.int .i64 (release s a).1) ∧ Both w0 q h bb cs (release s a).2 t w2 := by
  obtain ⟨own, lv, tv, hA, hR, h1, h2, h3, hb, hB, h4, h5⟩ := b
  exact (release_any hA a).mono fun e w2 k => ⟨k.1, both_arena hA hR h1 h2 h3 hb hB h4 h5 k.2⟩
theorem both_refuse_a (b : Both w0 q h bb cs s t w') {v : Value} {m : List Bool} (hv : Seq Elem.bools w' v m) : Calls Try.prog 14 #[.pointer (some ⟨q, 0, none⟩), v] w' fun e w2 => e = .returned (.int .i64 (refuse s m).1) ∧ Both w0 q h bb cs (refuse s m).2 t w2 := by
  obtain ⟨own, lv, tv, hA, hR, h1, h2, h3, hb, hB, h4, h5⟩ := b
  exact (refuse_any hA hv).mono fun e w2 k => ⟨k.1, both_arena hA hR h1 h2 h3 hb hB h4 h5 k.2⟩
theorem both_reserve_a (b : Both w0 q h bb cs s t w') (n : Int) (hr : s.r ≤ 1000000000000) : Calls Try.prog 16 #[.pointer (some ⟨q, 0, none⟩), .int .i64 n] w' fun e w2 => e = .returned (.tuple #[.int .i64 (reserve s n).1, .int .i64 (reserve s n).2.1]) ∧ Both w0 q h bb cs (reserve s n).2.2 t w2 := by
  obtain ⟨own, lv, tv, hA, hR, h1, h2, h3, hb, hB, h4, h5⟩ := b
  exact (reserve_any hA n hr).mono fun e w2 k => ⟨k.1, both_arena hA hR h1 h2 h3 hb hB h4 h5 k.2⟩
theorem both_release_r (hg : ArenaMath.Good t) (b : Both w0 q h bb cs s t w') (a : Int) : Calls Try.prog 13 #[.pointer (some ⟨h, 0, none⟩), .int .i64 a] w' fun e w2 => e = .returned (.int .i64 (release t a).1) ∧ Both w0 q h bb cs s (release t a).2 w2 := by
  obtain ⟨own, lv, tv, hA, hR, h1, h2, h3, hb, hB, h4, h5⟩ := b
  exact (ref_release_any hR hg a).mono fun e w2 k => ⟨k.1, both_ref hA hR h1 h2 h3 hb hB h4 h5 k.2⟩
theorem both_refuse_r (hg : ArenaMath.Good t) (b : Both w0 q h bb cs s t w') {v : Value} {m : List Bool} (hv : Seq Elem.bools w' v m) (hm : m.length ≤ 2000) : Calls Try.prog 15 #[.pointer (some ⟨h, 0, none⟩), v] w' fun e w2 => e = .returned (.int .i64 (refuse t m).1) ∧ Both w0 q h bb cs s (refuse t m).2 w2 := by
  obtain ⟨own, lv, tv, hA, hR, h1, h2, h3, hb, hB, h4, h5⟩ := b
  exact (ref_refuse_any hR hg hv hm).mono fun e w2 k => ⟨k.1, both_ref hA hR h1 h2 h3 hb hB h4 h5 k.2⟩
theorem both_reserve_r (hg : ArenaMath.Good t) (b : Both w0 q h bb cs s t w') (n : Int) (hr : t.r ≤ 1000000000000) : Calls Try.prog 17 #[.pointer (some ⟨h, 0, none⟩), .int .i64 n] w' fun e w2 => e = .returned (.tuple #[.int .i64 (reserve t n).1, .int .i64 (reserve t n).2.1]) ∧ Both w0 q h bb cs s (reserve t n).2.2 w2 := by
  obtain ⟨own, lv, tv, hA, hR, h1, h2, h3, hb, hB, h4, h5⟩ := b
  exact (ref_reserve_any hR hg n hr).mono fun e w2 k => ⟨k.1, both_ref hA hR h1 h2 h3 hb hB h4 h5 k.2⟩
end
end Go.Proofs.Ytnkahcfkbpbhiaa
