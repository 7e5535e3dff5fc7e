/- Layer 9: acts that come in; each call of a page whose users have U, and P posted. -/
import Derived.Test.YtlnlipjnljbegaaIn9
import Derived.Test.YtlnlipjnljbegaaGeoC
namespace Go.Proofs.Ytlnlipjnljbegaa
open Go.RowKit Go.Maps ListMath PageMath GeoMath
set_option linter.unusedVariables false

theorem i64_bd9 {n : Int} (h : (Lit.int .i64 n).wf = true) : -9223372036854775808 ≤ n ∧ n ≤ 9223372036854775807 := by
  simp [Lit.wf, IntKind.min, IntKind.max, IntKind.signed, IntKind.bits] at h; omega
theorem u64_bd9 {n : Int} (h : (Lit.int .u64 n).wf = true) : n = ((n.toNat : Nat) : Int) ∧ n.toNat ≤ 18446744073709551615 := by
  simp [Lit.wf, IntKind.min, IntKind.max, IntKind.signed, IntKind.bits] at h; omega
theorem cell_then {w w' : World} {a : Addr} {v : Value} (h : w.cell? a = some v) (hb : Below w.heap.size w w') : w'.cell? a = some v := (hb.cell (p := a) (World.block_lt_of_cell? w _ h)).trans h
theorem act9 {w : World} {a : Option Addr} {n cap len : Nat} {F : Nat → Nat → Value} (h : Recs w (.slice a n cap) [.num .i64, .num .i64, .num .u64] len F) {i : Nat} (hi : i < len) :
    ∃ b off k z, ∃ X : Nat, a = some ⟨b, off, none⟩ ∧ (∀ w', Below w.heap.size w w' → w'.cell? ⟨b, off + i * 3, none⟩ = some (.int .i64 k) ∧ w'.cell? ⟨b, off + i * 3 + 1, none⟩ = some (.int .i64 z) ∧ w'.cell? ⟨b, off + i * 3 + 2, none⟩ = some (.int .u64 (X : Int))) ∧ (-9223372036854775808 ≤ k ∧ k ≤ 9223372036854775807) ∧ (-9223372036854775808 ≤ z ∧ z ≤ 9223372036854775807) ∧ X ≤ 18446744073709551615 := by
  obtain ⟨b, off, rfl, hc⟩ := h.elem hi
  have c0 := hc 0 (by simp)
  have c1 := hc 1 (by simp)
  have c2 := hc 2 (by simp)
  have l0 := leaf_int (h.leaf hi 0 _ rfl)
  have l1 := leaf_int (h.leaf hi 1 _ rfl)
  have l2 := leaf_int (h.leaf hi 2 _ rfl)
  rw [l0.1] at c0
  rw [l1.1] at c1
  rw [l2.1, (u64_bd9 l2.2).1] at c2
  exact ⟨b, off, _, _, _, rfl, fun w' hb => ⟨cell_then c0 hb, cell_then c1 hb, cell_then c2 hb⟩, i64_bd9 l0.2, i64_bd9 l1.2, (u64_bd9 l2.2).2⟩
theorem refill_ct (S : PG) : (refill S).ct = S.ct := by unfold refill; split <;> first | rfl | (split <;> rfl)
/-- A law's page, its users, what is posted; the run's numbers. -/
structure Us (w : World) (C : PgC w) (pp p g : Nat) (O : Nat → Prop) (nb : Nat) (c : Addr) (s n T : Nat) (U P L : List Nat) (S : PG) (w' : World) : Prop where
  has : Has C pp p g O nb c L S w'
  wh : Wh L S U P
  f : S.f = 1024
  s : S.s = s
  n : S.n = n
  ct : S.ct ≤ T
section
variable {w : World} {C : PgC w} {pp p g nb s n T : Nat} {O : Nat → Prop} {c : Addr} {U P L : List Nat} {S : PG} {w' w2 : World}
theorem Us.grew (h : Us w C pp p g O nb c s n T U P L S w') (hb : Below w'.heap.size w' w2) : Us w C pp p g O nb c s n T U P L S w2 := ⟨h.has.grew hb, h.wh, h.f, h.s, h.n, h.ct⟩
theorem Us.alloc (h : Us w C pp p g O nb c s n T U P L S w') (o : Obj) : Us w C pp p g O nb c s n T U P L S (w'.alloc o) := ⟨h.has.alloc o, h.wh, h.f, h.s, h.n, h.ct⟩
theorem Us.upd {Z : Nat → Prop} (h : Us w C pp p g O nb c s n T U P L S w') (u : Upd Z w' w2) (hT : ∀ b, Z b → nb ≤ b) : Us w C pp p g O nb c s n T U P L S w2 := ⟨h.has.upd u h.has.low hT, h.wh, h.f, h.s, h.n, h.ct⟩
theorem us_gather (h : Us w C pp p g O nb c s n T U P L S w') : Calls Try.prog 15 #[.pointer (some ⟨pp, 0, none⟩)] w' fun e w2 => ∃ L' S', e = .returned (.tuple #[.int .i64 (P.length : Int), .int .i64 0]) ∧ Us w C pp p g O nb c s n (T + 1) U [] L' S' w2 ∧ Upd O w' w2 := by
  have hg := C.good h.has.pg
  have hc := h.wh.chain hg
  refine (has_gather h.has hc.1 hc.2.1 (fun x hx => ⟨h.wh.inP x hx, h.wh.ne.2 x hx⟩) h.wh.ndU.2).mono ?_
  rintro e w2 ⟨L', rfl, hh, ha, hu⟩
  exact ⟨L', _, rfl, ⟨hh, h.wh.gather, h.f, h.s, h.n, Nat.succ_le_succ h.ct⟩, hu⟩
theorem us_alloc (h : Us w C pp p g O nb c s n T U P L S w') : Calls Try.prog 22 #[.pointer (some ⟨pp, 0, none⟩)] w' fun e w2 => ∃ L' S', (∃ x : Nat, e = .returned (.tuple #[.int .u64 (x : Int), .int .i64 0]) ∧ x ≤ 1048576 ∧ x ∉ U ∧ Us w C pp p g O nb c s n T (U ++ [x]) P L' S' w2 ∧ Upd O w' w2) ∨ (e = .returned (.tuple #[.int .u64 0, .int .i64 4]) ∧ Us w C pp p g O nb c s n T U P L' S' w2 ∧ Upd O w' w2) := by
  have hg := C.good h.has.pg
  refine (has_alloc h.has).mono ?_
  rintro e w2 ⟨L', rfl, hh, ha, hu⟩
  obtain ⟨⟨S', a, e⟩, hA⟩ : ∃ z, allocP S = z := ⟨_, rfl⟩
  rw [hA] at hh ⊢
  rcases h.wh.alloc hg hA ha with ⟨rfl, hw, hn, _, t, ht, hS⟩ | ⟨rfl, rfl, rfl, _, _, _, hnew⟩
  · have hrg := refill_good hg
    have hg' := C.good hh.pg
    have hin := hw.inU a (List.mem_append_right _ (List.mem_singleton.2 rfl))
    have hfit := hin.fits hg'.made hg'.fit
    have hbig := hg'.big
    refine ⟨L', S', Or.inl ⟨a, rfl, by omega, hn, ⟨hh, hw, ?_, ?_, ?_, ?_⟩, hu⟩⟩
    · rw [hS]; exact hrg.2.2.1.trans h.f
    · rw [hS]; exact hrg.2.2.2.1.trans h.s
    · rw [hS]; exact hrg.2.2.2.2.trans h.n
    · rw [hS]; show (refill S).ct ≤ T; rw [refill_ct]; exact h.ct
  · refine ⟨L', _, Or.inr ⟨rfl, ⟨hh, ?_, h.f, h.s, h.n, h.ct⟩, hu⟩⟩
    exact ⟨Chain.agree ha h.wh.cP (fun b _ x hx => by rw [hnew] at hx; cases hx), h.wh.inP, h.wh.inU, h.wh.nd, h.wh.add, h.wh.use⟩
theorem us_free {x : Nat} {R : List Nat} (h : Us w C pp p g O nb c s n T U P L S w') (hp : U.Perm (x :: R)) {b : Nat} (hq : Seq Elem.u64s w' (.slice (some ⟨b, 0, none⟩) 1 1) [x]) (hb : nb ≤ b) :
    Calls Try.prog 19 #[.pointer (some ⟨pp, 0, none⟩), .slice (some ⟨b, 0, none⟩) 1 1] w' fun e w2 => ∃ L' S', e = .returned (.int .i64 0) ∧ Us w C pp p g O nb c s n T R P L' S' w2 ∧ Upd O w' w2 := by
  have hg := C.good h.has.pg
  have hw := h.wh.perm hp
  have hn := hw.ne.1 x (List.mem_cons_self ..)
  have hf := hw.fits hg (List.mem_cons_self ..)
  have hbig := hg.big
  refine (has_free h.has hq (fun k hk => h.has.out (by have := in_blk hk; omega)) (by decide) (by decide) (by decide) (fun a ha => by rw [List.mem_singleton.1 ha]; show x ≤ _; omega) (by simp) (fun a ha => by rw [List.mem_singleton.1 ha]; exact ⟨hn.1, hn.2.1⟩)).mono ?_
  rintro e w2 ⟨L', rfl, hh, ha, hu⟩
  obtain ⟨e1, hw'⟩ := hw.free hg ha
  have e2 : freeP S [x] = ({ S with G := x :: S.G, used := S.used - 1 }, 0) := by
    show (if (free1 S x).2 = 0 then freeP (free1 S x).1 [] else free1 S x) = _
    rw [e1]; rfl
  rw [e2] at hh ⊢
  exact ⟨L', _, rfl, ⟨hh, hw', h.f, h.s, h.n, h.ct⟩, hu⟩
theorem us_load (h : Us w C pp p g O nb c s n T U P L S w') (hb : S.ct ≤ 18446744073709551615 := by first | omega | decide | (simp only []; omega)) : Calls Try.prog 30 #[.pointer (some c)] w' fun e w2 => e = .returned (.tuple #[.int .u64 (S.cw : Int), .int .u64 (S.ct : Int)]) ∧ Us w C pp p g O nb c s n T U P L S.asked w2 ∧ Upd O w' w2 :=
  (has_load h.has hb).mono fun e w2 ⟨h1, h2, h3⟩ => ⟨h1, ⟨h2, h.wh.ask, h.f, h.s, h.n, h.ct⟩, h3⟩
/-- Posted by what was just looked at. -/
theorem us_post {x : Nat} {R : List Nat} (h : Us w C pp p g O nb c s n T U P L S w') (hp : U.Perm (x :: R)) (ht : S.ct ≤ 18446744073709551615) :
    Calls Try.prog 20 #[.pointer (some ⟨pp, 0, none⟩), .int .u64 (x : Int), .int .u64 (S.cw : Int), .int .u64 (S.ct : Int)] w' fun e w2 => e = .returned (.tuple #[.bool true, .int .i64 0]) ∧ Us w C pp p g O nb c s n (T + 1) R (x :: P) (MemMath.put8 L x S.cw) (S.wrote x) w2 ∧ Upd O w' w2 := by
  have hg := C.good h.has.pg
  have hw := h.wh.perm hp
  have hn := hw.ne.1 x (List.mem_cons_self ..)
  have hf := hw.fits hg (List.mem_cons_self ..)
  have hbig := hg.big
  have hcw := (C.num h.has.pg).1
  have := has_post (a := x) (hd := S.cw) (t := S.ct) h.has (show x ≤ _ by omega) hcw ht hn.1 hn.2.1 (given_blk hg (hw.inU x (List.mem_cons_self ..)))
  rw [show postP S x S.ct = (S.wrote x, true) from if_pos rfl] at this
  exact this.mono fun e w2 ⟨h1, h2, h3⟩ => ⟨h1, ⟨h2, hw.post hg, h.f, h.s, h.n, Nat.succ_le_succ h.ct⟩, h3⟩
end
end Go.Proofs.Ytlnlipjnljbegaa
