/- The laws' 'alive' and 'made' of layer 9; each call of a law's own page. -/
import Derived.Test.YtlnlipjnljbegaaPageCl
import Derived.Test.YtlnlipjnljbegaaMem2
namespace Go.Proofs.Ytlnlipjnljbegaa
open Go.RowKit ListMath PageMath GeoMath
set_option linter.unusedVariables false

section
variable {w : World} {C : PgC w} {pp p g nb : Nat} {O : Nat → Prop} {c : Addr} {L : List Nat} {S : PG} {w' : World}
theorem has_alloc (h : Has C pp p g O nb c L S w') : Calls Try.prog 22 #[.pointer (some ⟨pp, 0, none⟩)] w' fun e w2 => ∃ L', e = .returned (.tuple #[.int .u64 ((allocP S).2.1 : Int), .int .i64 (allocP S).2.2]) ∧ Has C pp p g O nb c L' (allocP S).1 w2 ∧ Agree L L' (newsOf S) ∧ Upd O w' w2 :=
  (C.alloc w' h.below h.pg).mono fun e w2 ⟨h1, L', h2, h3, h4⟩ => ⟨L', h1, h.turn h2 h4, h3, h4⟩
theorem has_free (h : Has C pp p g O nb c L S w') {a : Option Addr} {k cap : Nat} {l : List Nat} (hq : Seq Elem.u64s w' (.slice a k cap) l) (hin : ∀ b, In (.slice a k cap) b → ¬ O b) (h1 : k ≤ cap) (h2 : cap ≤ 9223372036854775807) (h3 : k ≤ 2000) (hx : ∀ x ∈ l, U64B x) (hn : l.Nodup) (ho : ∀ x ∈ l, x ∉ S.F ∧ x ∉ S.G) :
    Calls Try.prog 19 #[.pointer (some ⟨pp, 0, none⟩), .slice a k cap] w' fun e w2 => ∃ L', e = .returned (.int .i64 (freeP S l).2) ∧ Has C pp p g O nb c L' (freeP S l).1 w2 ∧ Agree L L' l ∧ Upd O w' w2 :=
  (C.free w' h.below h.pg hq hin h1 h2 h3 hx hn ho).mono fun e w2 ⟨h1, L', h2, h3, h4⟩ => ⟨L', h1, h.turn h2 h4, h3, h4⟩
theorem has_cell (h : Has C pp p g O nb c L S w') : Calls Try.prog 29 #[.pointer (some ⟨pp, 0, none⟩)] w' fun e w2 => e = .returned (.pointer (some c)) ∧ Has C pp p g O nb c L S w2 ∧ Below w'.heap.size w' w2 :=
  (C.cell w' h.below h.pg).mono fun e w2 ⟨h1, h2⟩ => ⟨h1, h.grew h2, h2⟩
theorem has_load (h : Has C pp p g O nb c L S w') (hb : S.ct ≤ 18446744073709551615 := by first | omega | decide | (simp only []; omega)) : Calls Try.prog 30 #[.pointer (some c)] w' fun e w2 => e = .returned (.tuple #[.int .u64 (S.cw : Int), .int .u64 (S.ct : Int)]) ∧ Has C pp p g O nb c L S.asked w2 ∧ Upd O w' w2 :=
  (C.load w' h.below h.pg hb).mono fun e w2 ⟨h1, h2, h3⟩ => ⟨h1, h.turn h2 h3, h3⟩
theorem has_used (h : Has C pp p g O nb c L S w') : Calls Try.prog 27 #[.pointer (some ⟨pp, 0, none⟩)] w' fun e w2 => e = .returned (.int .i64 (S.used : Int)) ∧ Has C pp p g O nb c L S w2 ∧ Below w'.heap.size w' w2 :=
  (C.used w' h.below h.pg).mono fun e w2 ⟨h1, h2⟩ => ⟨h1, h.grew h2, h2⟩
theorem has_made (h : Has C pp p g O nb c L S w') : Calls Try.prog 28 #[.pointer (some ⟨pp, 0, none⟩)] w' fun e w2 => e = .returned (.int .i64 (S.made : Int)) ∧ Has C pp p g O nb c L S w2 ∧ Below w'.heap.size w' w2 :=
  (C.made w' h.below h.pg).mono fun e w2 ⟨h1, h2⟩ => ⟨h1, h.grew h2, h2⟩
theorem has_post (h : Has C pp p g O nb c L S w') {a hd t : Nat} (h1 : U64B a) (h2 : U64B hd) (h3 : U64B t) (h4 : a ∉ S.F) (h5 : a ∉ S.G) (hg : givenE S a = 0) (hb : S.ct ≤ 18446744073709551615 := by first | omega | decide | (simp only []; omega)) :
    Calls Try.prog 20 #[.pointer (some ⟨pp, 0, none⟩), .int .u64 (a : Int), .int .u64 (hd : Int), .int .u64 (t : Int)] w' fun e w2 => e = .returned (.tuple #[.bool (postP S a t).2, .int .i64 0]) ∧ Has C pp p g O nb c (MemMath.put8 L a hd) (postP S a t).1 w2 ∧ Upd O w' w2 :=
  (C.post w' h.below h.pg hb h1 h2 h3 h4 h5).mono fun e w2 ⟨k1, k2, _⟩ => ⟨(k2 hg).1, h.turn (k2 hg).2 k1, k1⟩
theorem has_gather (h : Has C pp p g O nb c L S w') {P : List Nat} (h1 : chainN L S.cw (S.n : Int) = some P) (h2 : P.length ≤ S.used) (h3 : ∀ x ∈ P, IsBlk S.f S.s S.made x ∧ x ∉ S.F ∧ x ∉ S.G) (h4 : P.Nodup) :
    Calls Try.prog 15 #[.pointer (some ⟨pp, 0, none⟩)] w' fun e w2 => ∃ L', e = .returned (.tuple #[.int .i64 (P.length : Int), .int .i64 0]) ∧ Has C pp p g O nb c L' (gathP S P) w2 ∧ Agree L L' P ∧ Upd O w' w2 :=
  (C.gather w' h.below h.pg h1 h2 h3 h4).mono fun e w2 ⟨k1, L', k2, k3, k4⟩ => ⟨L', k1, h.turn k2 k4, k3, k4⟩
theorem has_gather_bad (h : Has C pp p g O nb c L S w') (h1 : ∀ P, chainN L S.cw (S.n : Int) = some P → S.used < P.length) :
    Calls Try.prog 15 #[.pointer (some ⟨pp, 0, none⟩)] w' fun e w2 => e = .returned (.tuple #[.int .i64 0, .int .i64 3]) ∧ Has C pp p g O nb c L (S.wrote 0) w2 ∧ Upd O w' w2 :=
  (C.gather_bad w' h.below h.pg h1).mono fun e w2 ⟨k1, k2, k3⟩ => ⟨k1, h.turn k2 k3, k3⟩
/-- A word that is stored into a block that isn't free. -/
theorem has_lay (h : Has C pp p g O nb c L S w') {M : List Nat} {w2 : World} (hm : IsMem w2 p g M) (u : Upd (fun b => b = g) w' w2) (hg : GoodP M S) : Has C pp p g O nb c M S w2 :=
  h.turn (C.lay h.pg hm u hg) (u.mono fun b e => e ▸ (C.num h.pg).2.2.1)
end
/-- A memory of so many bytes, and a page in it. -/
theorem has_new {w : World} {C : PgC w} {p g f s n : Nat} {L : List Nat} {w' : World} (hb : Below w.heap.size w w') (hm : IsMem w' p g L) (h1 : w.heap.size ≤ p) (h2 : w.heap.size ≤ g) (hg : GoodP L (newPG f s n)) :
    Calls Try.prog 12 #[.pointer (some ⟨p, 0, none⟩), runV f s (n : Int)] w' fun e w2 => ∃ pp c O nb, e = .returned (.tuple #[.pointer (some ⟨pp, 0, none⟩), .int .i64 0]) ∧ Has C pp p g O nb c L (newPG f s n) w2 ∧ nb = w2.heap.size ∧ (∀ b, O b → b = p ∨ b = g ∨ w'.heap.size ≤ b) ∧ Below w'.heap.size w' w2 :=
  (C.new w' hb hm hg).mono fun e w2 ⟨pp, c, O, k1, k2, k3, k4⟩ => ⟨pp, c, O, _, k1, ⟨k2, below_then hb hb.size k4, fun b hO => ⟨by
    have := hb.size
    rcases k3 b hO with rfl | rfl | h
    · exact h1
    · exact h2
    · omega, (C.num k2).2.2.2.2.2 b hO⟩, Nat.le_refl _⟩, rfl, k3, k4⟩
theorem newMem (n : Nat) (h0 : 1024 ≤ n) (h1 : n ≤ 1048576) (h2 : n % 1024 = 0) (w : World) : Calls Try.prog 11 #[.int .u64 (n : Int)] w fun e w' => ∃ p g L, e = .returned (.tuple #[.pointer (some ⟨p, 0, none⟩), .int .i64 0]) ∧ IsMem w' p g L ∧ L.length = n ∧ w.heap.size ≤ p ∧ w.heap.size ≤ g ∧ Below w.heap.size w w' :=
  (new_ok n h0 h1 h2 w).mono fun e w' ⟨p, g, h1, h2, h3, h4, h5⟩ => ⟨p, g, _, h1, h2, MemMath.length_rep _ _, h3, h4, h5.below (fun _ h => h.elim) (Nat.le_refl _)⟩
def T0 : PG := newPG 1024 256 4
def T1 : PG := ⟨1024, 256, 4, 4, 1, [1280, 1536, 1792], [], 0, 0, 0⟩
def T2 : PG := ⟨1024, 256, 4, 4, 2, [1536, 1792], [], 0, 0, 0⟩
def T3 : PG := ⟨1024, 256, 4, 4, 1, [1536, 1792], [1024], 0, 0, 0⟩
def T4 : PG := ⟨1024, 256, 4, 4, 2, [1792], [1024], 0, 0, 0⟩
def T5 : PG := ⟨1024, 256, 4, 4, 3, [], [1024], 0, 0, 0⟩
def T6 : PG := ⟨1024, 256, 4, 4, 4, [], [], 0, 0, 0⟩
theorem t1 : allocP T0 = (T1, 1024, 0) := rfl
theorem t2 : allocP T1 = (T2, 1280, 0) := rfl
theorem t3 : freeP T2 [1024] = (T3, 0) := by
  have e : givenE T2 1024 = 0 := by decide
  have h : free1 T2 1024 = (T3, 0) := by unfold free1; rw [if_neg (fun x => x e), if_neg (by decide)]; rfl
  show (if (free1 T2 1024).2 = 0 then freeP (free1 T2 1024).1 [] else free1 T2 1024) = _
  rw [h]; rfl
theorem t4 : allocP T3 = (T4, 1536, 0) := rfl
theorem t5 : allocP T4 = (T5, 1792, 0) := rfl
theorem t6 : allocP T5 = (T6, 1024, 0) := rfl
set_option maxRecDepth 100000 in
set_option maxHeartbeats 2000000 in
theorem alive_any (w : World) (C : PgC w) : Calls Try.prog 10 #[] w fun e w' => e = .returned (.bool true) ∧ Below w.heap.size w w' := by
  have hgood : ∀ L : List Nat, L.length = 4096 → GoodP L T0 := fun L h => GoodP.new (by decide) (by decide) (by decide) (by decide) (by rw [h]; decide) (by rw [h]; decide)
  have HG := Lib.hid hgood
  clear hgood
  go_enter Try.func10, Try.ntmps10
  go_wp2_with fail
  refine (newMem 4096 (by decide) (by decide) (by decide) _).mono ?_; rintro e w1 ⟨p, g, L0, rfl, hm, hlen, fp, fg, hb⟩
  have M1 := Lib.hid hm; have B1 := Lib.hid hb; have G1 := Lib.hid (HG.out L0 hlen)
  clear hm hlen hb
  go_wp2_with fail
  refine (has_new (C := C) B1.out M1.out fp fg G1.out).mono ?_; rintro e w2 ⟨pp, c, O, nb, rfl, hh, hnb, _, hb⟩
  have H2 : Hid (Has C pp p g O nb c L0 T0 w2) := Lib.hid hh
  clear hh hnb hb fp fg
  go_wp2_with fail
  refine (has_alloc H2.out).mono ?_; rintro e w3 ⟨L1, rfl, hh, _, _⟩
  rw [t1] at hh ⊢
  have H3 := Lib.hid hh; clear hh
  go_wp2_with fail
  refine (has_alloc H3.out).mono ?_; rintro e w4 ⟨L2, rfl, hh, _, _⟩
  rw [t2] at hh ⊢
  have H4 := Lib.hid hh; clear hh
  go_wp2_with fail
  refine (has_free (H4.out.alloc _) (u64_oneAt _ _ 1024 _ rfl) (fun b hb => H4.out.out (by have h1 := in_blk hb; have h2 := H4.out.size; omega)) (by decide) (by decide) (by decide) (by decide) (by decide) (by decide)).mono ?_
  rintro e w5 ⟨L3, rfl, hh, _, _⟩
  rw [t3] at hh ⊢
  have H5 := Lib.hid hh; clear hh
  go_wp2_with fail
  refine (has_alloc H5.out).mono ?_; rintro e w6 ⟨L4, rfl, hh, _, _⟩
  rw [t4] at hh ⊢
  have H6 := Lib.hid hh; clear hh
  go_wp2_with fail
  refine (has_alloc H6.out).mono ?_; rintro e w7 ⟨L5, rfl, hh, _, _⟩
  rw [t5] at hh ⊢
  have H7 := Lib.hid hh; clear hh
  go_wp2_with fail
  refine (has_alloc H7.out).mono ?_; rintro e w8 ⟨L6, rfl, hh, _, _⟩
  rw [t6] at hh ⊢
  have H8 := Lib.hid hh; clear hh
  go_wp2_with fail
  refine (C.alloc_nil _).mono ?_; rintro e w9 ⟨rfl, hb⟩
  have H9 := Lib.hid (H8.out.grew hb); clear hb
  go_wp2_with fail
  refine (has_used H9.out).mono ?_; rintro e w10 ⟨rfl, hh, _⟩
  have H10 := Lib.hid hh; clear hh
  go_wp2
  go_ret
  exact ⟨rfl, H10.out.below⟩
end Go.Proofs.Ytlnlipjnljbegaa
