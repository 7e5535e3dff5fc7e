/- Layer 9: what the users wrote stays: each call of a page leaves the bytes of a used block as they are. -/
import Derived.Test.YtlnlipjnljbegaaActs9
namespace Go.Proofs.Ytlnlipjnljbegaa
open Go.RowKit Go.Maps ListMath PageMath GeoMath
set_option linter.unusedVariables false

/-- Of each of U the bytes are the same. -/
def Same (s : Nat) (U L L' : List Nat) : Prop := ∀ u ∈ U, MemMath.part L' u s = MemMath.part L u s
theorem Same.refl (s : Nat) (U L : List Nat) : Same s U L L := fun _ _ => rfl
theorem Same.trans {s : Nat} {U A B D : List Nat} (h : Same s U A B) (k : Same s U B D) : Same s U A D := fun u hu => (k u hu).trans (h u hu)
theorem Same.less {s : Nat} {U V L L' : List Nat} (h : Same s U L L') (hs : ∀ u ∈ V, u ∈ U) : Same s V L L' := fun u hu => h u (hs u hu)
theorem agree_same {L L' X U : List Nat} {S : PG} {k : Nat} (g : GoodP L S) (e : Agree L L' X) (hX : ∀ x ∈ X, IsBlk S.f S.s k x) (hU : ∀ u ∈ U, IsBlk S.f S.s S.made u ∧ u ∉ X) : Same S.s U L L' := by
  intro u hu
  obtain ⟨h1, h2⟩ := hU u hu
  have h3 := h1.fits g.made g.fit
  have h4 := g.s16
  refine e.part h3 fun x hx => ?_
  have h5 := h1.apart (hX x hx) (fun e => h2 (e ▸ hx))
  omega
theorem newsOf_new {L : List Nat} {S : PG} (g : GoodP L S) : ∃ k, ∀ x ∈ newsOf S, IsBlk S.f S.s k x ∧ ¬ IsBlk S.f S.s S.made x := by
  unfold newsOf
  split
  · exact ⟨_, fun x hx => ⟨news_blk hx, news_new (by have := g.s16; omega) hx⟩⟩
  · exact ⟨0, fun x hx => by cases hx⟩
/-! ### Writing into a used block -/
theorem part_off {L M : List Nat} {x s : Nat} (hl : M.length = L.length) (hm : ∀ i, (i < x ∨ x + s ≤ i) → M.getD i 0 = L.getD i 0) {o n : Nat} (ho : o + n ≤ L.length) (hx : o + n ≤ x ∨ x + s ≤ o) : MemMath.part M o n = MemMath.part L o n := by
  apply MemMath.ext_getD
  · rw [MemMath.length_part (by rw [hl]; exact ho), MemMath.length_part ho]
  · intro i hi
    rw [MemMath.length_part (by rw [hl]; exact ho)] at hi
    rw [MemMath.getD_part hi, MemMath.getD_part hi]
    exact hm _ (by omega)
theorem chain_off {L M : List Nat} (hl : M.length = L.length) : ∀ {a : Nat} {l : List Nat}, Chain L a l → (∀ b ∈ l, b + 8 ≤ L.length → linkAt M b = linkAt L b) → Chain M a l
  | _, [], hc, _ => hc
  | _, b :: t, hc, hd => by
    obtain ⟨rfl, h0, h8, hc⟩ := hc
    refine ⟨rfl, h0, by rw [hl]; exact h8, ?_⟩
    rw [hd _ (List.mem_cons_self ..) h8]
    exact chain_off hl hc fun c hc => hd c (List.mem_cons_of_mem _ hc)
theorem write_used {L M U P : List Nat} {S : PG} {x : Nat} (g : GoodP L S) (h : Wh L S U P) (hx : x ∈ U) (hl : M.length = L.length) (hm : ∀ i, (i < x ∨ x + S.s ≤ i) → M.getD i 0 = L.getD i 0) :
    GoodP M S ∧ Wh M S U P ∧ ∀ u ∈ U, u ≠ x → MemMath.part M u S.s = MemMath.part L u S.s := by
  have hn := h.ne.1 x hx
  have hb := h.inU x hx
  have hs := g.s16
  have hk : ∀ b, IsBlk S.f S.s S.made b → b ≠ x → b + 8 ≤ L.length → linkAt M b = linkAt L b := fun b h1 h2 h3 => by
    unfold linkAt
    rw [part_off hl hm h3 (by have := h1.apart hb h2; omega)]
  refine ⟨⟨g.f0, g.s16, g.n1, g.n2, by rw [hl]; exact g.fit, by rw [hl]; exact g.big, g.made, chain_off hl g.cF fun b h1 => hk b (g.inF b h1) (fun e => hn.1 (e ▸ h1)), chain_off hl g.cG fun b h1 => hk b (g.inG b h1) (fun e => hn.2.1 (e ▸ h1)), g.inF, g.inG, g.nd⟩, ⟨chain_off hl h.cP fun b h1 => hk b (h.inP b h1) (fun e => hn.2.2 (e ▸ h1)), h.inP, h.inU, h.nd, h.add, h.use⟩, fun u hu hne => ?_⟩
  exact part_off hl hm ((h.inU u hu).fits g.made g.fit) ((h.inU u hu).apart hb hne)
section
variable {w : World} {C : PgC w} {pp p g nb s n T : Nat} {O : Nat → Prop} {c : Addr} {U P L : List Nat} {S : PG} {w' w2 : World}
theorem us_gather2 (h : Us w C pp p g O nb c s n T U P L S w') : Calls Try.prog 15 #[.pointer (some ⟨pp, 0, none⟩)] w' fun e w2 => ∃ L' S', e = .returned (.tuple #[.int .i64 (P.length : Int), .int .i64 0]) ∧ Us w C pp p g O nb c s n (T + 1) U [] L' S' w2 ∧ Upd O w' w2 ∧ Same s U L L' := by
  have hg := C.good h.has.pg
  have hc := h.wh.chain hg
  refine (has_gather h.has hc.1 hc.2.1 (fun x hx => ⟨h.wh.inP x hx, h.wh.ne.2 x hx⟩) h.wh.ndU.2).mono ?_
  rintro e w2 ⟨L', rfl, hh, ha, hu⟩
  have hs : Same S.s U L L' := agree_same hg ha h.wh.inP fun u hu => ⟨h.wh.inU u hu, (h.wh.ne.1 u hu).2.2⟩
  rw [h.s] at hs
  exact ⟨L', _, rfl, ⟨hh, h.wh.gather, h.f, h.s, h.n, Nat.succ_le_succ h.ct⟩, hu, hs⟩
theorem us_alloc2 (h : Us w C pp p g O nb c s n T U P L S w') : Calls Try.prog 22 #[.pointer (some ⟨pp, 0, none⟩)] w' fun e w2 => ∃ L' S', Same s U L L' ∧ ((∃ x : Nat, e = .returned (.tuple #[.int .u64 (x : Int), .int .i64 0]) ∧ x + s ≤ L'.length ∧ L'.length ≤ 1048576 ∧ IsBlk 1024 s n x ∧ x ∉ U ∧ Us w C pp p g O nb c s n T (U ++ [x]) P L' S' w2 ∧ Upd O w' w2) ∨ (e = .returned (.tuple #[.int .u64 0, .int .i64 4]) ∧ Us w C pp p g O nb c s n T U P L' S' w2 ∧ Upd O w' w2)) := by
  have hg := C.good h.has.pg
  refine (has_alloc h.has).mono ?_
  rintro e w2 ⟨L', rfl, hh, ha, hu⟩
  obtain ⟨k, hk⟩ := newsOf_new hg
  have hs : Same S.s U L L' := agree_same hg ha (fun x hx => (hk x hx).1) fun u hu => ⟨h.wh.inU u hu, fun hx => (hk u hx).2 (h.wh.inU u hu)⟩
  rw [h.s] at hs
  obtain ⟨⟨S', a, e⟩, hA⟩ : ∃ z, allocP S = z := ⟨_, rfl⟩
  rw [hA] at hh ⊢
  rcases h.wh.alloc hg hA ha with ⟨rfl, hw, hn, _, t, ht, hS⟩ | ⟨rfl, rfl, rfl, _, _, _, hnew⟩
  · have hrg := refill_good hg
    have hg' := C.good hh.pg
    have hin := hw.inU a (List.mem_append_right _ (List.mem_singleton.2 rfl))
    have hfit := hin.fits hg'.made hg'.fit
    have hbig := hg'.big
    have ef : S'.f = 1024 := by rw [hS]; exact hrg.2.2.1.trans h.f
    have es : S'.s = s := by rw [hS]; exact hrg.2.2.2.1.trans h.s
    have en : S'.n = n := by rw [hS]; exact hrg.2.2.2.2.trans h.n
    have hm := hg'.made
    rw [es] at hfit
    rw [ef, es] at hin
    rw [en] at hm
    exact ⟨L', S', hs, Or.inl ⟨a, rfl, hfit, hbig, hin.mono hm, hn, ⟨hh, hw, ef, es, en, by rw [hS]; show (refill S).ct ≤ T; rw [refill_ct]; exact h.ct⟩, hu⟩⟩
  · refine ⟨L', _, hs, Or.inr ⟨rfl, ⟨hh, ?_, h.f, h.s, h.n, h.ct⟩, hu⟩⟩
    exact ⟨Chain.agree ha h.wh.cP (fun b _ x hx => by rw [hnew] at hx; cases hx), h.wh.inP, h.wh.inU, h.wh.nd, h.wh.add, h.wh.use⟩
theorem us_free2 {x : Nat} {R : List Nat} (h : Us w C pp p g O nb c s n T U P L S w') (hp : U.Perm (x :: R)) {b : Nat} (hq : Seq Elem.u64s w' (.slice (some ⟨b, 0, none⟩) 1 1) [x]) (hb : nb ≤ b) :
    Calls Try.prog 19 #[.pointer (some ⟨pp, 0, none⟩), .slice (some ⟨b, 0, none⟩) 1 1] w' fun e w2 => ∃ L' S', e = .returned (.int .i64 0) ∧ Us w C pp p g O nb c s n T R P L' S' w2 ∧ Upd O w' w2 ∧ Same s R L L' := by
  have hg := C.good h.has.pg
  have hw := h.wh.perm hp
  have hn := hw.ne.1 x (List.mem_cons_self ..)
  have hf := hw.fits hg (List.mem_cons_self ..)
  have hbig := hg.big
  refine (has_free h.has hq (fun k hk => h.has.out (by have := in_blk hk; omega)) (by decide) (by decide) (by decide) (fun a ha => by rw [List.mem_singleton.1 ha]; show x ≤ _; omega) (by simp) (fun a ha => by rw [List.mem_singleton.1 ha]; exact ⟨hn.1, hn.2.1⟩)).mono ?_
  rintro e w2 ⟨L', rfl, hh, ha, hu⟩
  obtain ⟨e1, hw'⟩ := hw.free hg ha
  have e2 : freeP S [x] = ({ S with G := x :: S.G, used := S.used - 1 }, 0) := by
    show (if (free1 S x).2 = 0 then freeP (free1 S x).1 [] else free1 S x) = _
    rw [e1]; rfl
  rw [e2] at hh ⊢
  have hs : Same S.s R L L' := agree_same hg ha (fun y hy => by rw [List.mem_singleton.1 hy]; exact hw.inU x (List.mem_cons_self ..)) fun u hu => ⟨hw.inU u (List.mem_cons_of_mem _ hu), fun hy => by
    rw [List.mem_singleton.1 hy] at hu
    exact (List.nodup_cons.1 hw.ndU.1).1 hu⟩
  rw [h.s] at hs
  exact ⟨L', _, rfl, ⟨hh, hw', h.f, h.s, h.n, h.ct⟩, hu, hs⟩
theorem us_post_same {x : Nat} {R : List Nat} (h : Us w C pp p g O nb c s n T U P L S w') (hp : U.Perm (x :: R)) : Same s R L (MemMath.put8 L x S.cw) := by
  have hg := C.good h.has.pg
  have hw := h.wh.perm hp
  have hf := hw.fits hg (List.mem_cons_self ..)
  have hs : Same S.s R L (MemMath.put8 L x S.cw) := agree_same hg (Agree.put hf.2.2) (fun y hy => by rw [List.mem_singleton.1 hy]; exact hw.inU x (List.mem_cons_self ..)) fun u hu => ⟨hw.inU u (List.mem_cons_of_mem _ hu), fun hy => by
    rw [List.mem_singleton.1 hy] at hu
    exact (List.nodup_cons.1 hw.ndU.1).1 hu⟩
  rw [h.s] at hs
  exact hs
/-- The law wrote into a used block. -/
theorem Us.wrote {M : List Nat} {x : Nat} (h : Us w C pp p g O nb c s n T U P L S w') (hx : x ∈ U) (hi : IsMem w2 p g M) (u : Upd (fun b => b = g) w' w2) (hl : M.length = L.length) (hm : ∀ i, (i < x ∨ x + s ≤ i) → M.getD i 0 = L.getD i 0) :
    Us w C pp p g O nb c s n T U P M S w2 ∧ ∀ u ∈ U, u ≠ x → MemMath.part M u s = MemMath.part L u s := by
  have hg := C.good h.has.pg
  obtain ⟨h1, h2, h3⟩ := write_used (M := M) hg h.wh hx hl (by rw [h.s]; exact hm)
  rw [h.s] at h3
  exact ⟨⟨has_lay h.has hi u h1, h2, h.f, h.s, h.n, h.ct⟩, h3⟩
/-- The law fills a used block. -/
theorem us_fill {x cb : Nat} {a : Option Addr} {cap : Nat} (h : Us w C pp p g O nb c s n T U P L S w') (hx : x ∈ U) (hr : Reads8 w' (.slice a 1 cap) [cb]) (hb : cb ≤ 255) :
    Calls Try.prog 31 #[.pointer (some ⟨p, 0, none⟩), .int .u64 (x : Int), .int .u64 (s : Int), .slice a 1 cap] w' fun e w2 => ∃ M, e = .returned (.int .i64 0) ∧ Us w C pp p g O nb c s n T U P M S w2 ∧ Upd (fun b => b = g) w' w2 ∧ MemMath.part M x s = MemMath.rep s cb ∧ ∀ u ∈ U, u ≠ x → MemMath.part M u s = MemMath.part L u s := by
  have hg := C.good h.has.pg
  have hfit := (h.wh.inU x hx).fits hg.made hg.fit
  rw [h.s] at hfit
  have hlf : (MemMath.fill s [cb]).length = s := MemMath.length_fill ..
  have hlm : x + (MemMath.fill s [cb]).length ≤ L.length := by rw [hlf]; exact hfit
  refine (fill_any (C.mem h.has.pg) x s a cap [cb] hr (fun y hy => by rw [List.mem_singleton.1 hy]; omega) (by simp) hfit).mono ?_
  rintro e w2 ⟨rfl, hm, hu⟩
  obtain ⟨k1, k2⟩ := h.wrote hx hm hu (MemMath.length_splice' hlm) fun i hi => by
    rw [MemMath.getD_splice hlm, if_neg (by rw [hlf]; omega)]
  refine ⟨_, rfl, k1, hu, ?_, k2⟩
  have := MemMath.part_splice hlm
  rw [hlf] at this
  rw [this, MemMath.fill_one]
theorem us_get {x : Nat} (h : Us w C pp p g O nb c s n T U P L S w') (hx : x ∈ U) :
    Calls Try.prog 32 #[.pointer (some ⟨p, 0, none⟩), .int .u64 (x : Int), .int .u64 (s : Int)] w' (Got w' (MemMath.part L x s)) := by
  have hg := C.good h.has.pg
  have hfit := (h.wh.inU x hx).fits hg.made hg.fit
  rw [h.s] at hfit
  exact get_ok (C.mem h.has.pg) x s hfit
end
end Go.Proofs.Ytlnlipjnljbegaa
