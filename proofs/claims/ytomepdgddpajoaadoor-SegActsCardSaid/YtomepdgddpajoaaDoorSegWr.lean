/- A segment of a law's own: users write into blocks of its pages; what else stays. -/
import Derived.Test.YtomepdgddpajoaaDoorSegOs
import Derived.Test.YtomepdgddpajoaaDoorSegMath2
namespace Go.Proofs.YtomepdgddpajoaaDoor
open Go.RowKit ListMath PageMath GeoMath SegMath ClassMath
set_option linter.unusedVariables false

theorem part_offW {L M : List Nat} {x s : Nat} (hl : M.length = L.length) (hm : ∀ i, (i < x ∨ x + s ≤ i) → M.getD i 0 = L.getD i 0) {o n : Nat} (ho : o + n ≤ L.length) (hx : o + n ≤ x ∨ x + s ≤ o) : MemMath.part M o n = MemMath.part L o n := by
  apply MemMath.ext_getD
  · rw [MemMath.length_part (by rw [hl]; exact ho), MemMath.length_part ho]
  · intro i hi
    rw [MemMath.length_part (by rw [hl]; exact ho)] at hi
    rw [MemMath.getD_part hi, MemMath.getD_part hi]
    exact hm _ (by omega)
theorem chain_offW {L M : List Nat} (hl : M.length = L.length) : ∀ {a : Nat} {l : List Nat}, Chain L a l → (∀ b ∈ l, b + 8 ≤ L.length → linkAt M b = linkAt L b) → Chain M a l
  | _, [], hc, _ => hc
  | _, b :: t, hc, hd => by
    obtain ⟨rfl, h0, h8, hc⟩ := hc
    refine ⟨rfl, h0, by rw [hl]; exact h8, ?_⟩
    rw [hd _ (List.mem_cons_self ..) h8]
    exact chain_offW hl hc fun c hc => hd c (List.mem_cons_of_mem _ hc)
/-- No free block's link lies within so many bytes from x on. -/
def ClearS (X : SG) (x s : Nat) : Prop := ∀ y ∈ X.L, ∀ b, (b ∈ y.P.F ∨ b ∈ y.P.G) → b + 8 ≤ x ∨ x + s ≤ b
theorem goodP_off {L M : List Nat} {S : PG} {x s : Nat} (g : GoodP L S) (hl : M.length = L.length) (hm : ∀ i, (i < x ∨ x + s ≤ i) → M.getD i 0 = L.getD i 0) (hc : ∀ b, (b ∈ S.F ∨ b ∈ S.G) → b + 8 ≤ x ∨ x + s ≤ b) : GoodP M S := by
  have hk : ∀ b, (b ∈ S.F ∨ b ∈ S.G) → b + 8 ≤ L.length → linkAt M b = linkAt L b := fun b h1 h3 => by
    unfold linkAt
    rw [part_offW hl hm h3 (hc b h1)]
  exact ⟨g.f0, g.s16, g.n1, g.n2, by rw [hl]; exact g.fit, by rw [hl]; exact g.big, g.made, chain_offW hl g.cF fun b h1 => hk b (.inl h1), chain_offW hl g.cG fun b h1 => hk b (.inr h1), g.inF, g.inG, g.nd⟩
section
variable {w : World} {C : SgC w} {sp p g : Nat} {I : Nat → Prop} {c : Addr} {L M : List Nat} {X : SG} {w' w2 : World}
theorem Sg.laid {x s : Nat} (h : Sg C.Int' w' sp p g I c L X) (m : IsMem w2 p g M) (u : Upd (fun b => b = g) w' w2) (hl : M.length = L.length) (hm : ∀ i, (i < x ∨ x + s ≤ i) → M.getD i 0 = L.getD i 0) (hc : ClearS X x s) : Sg C.Int' w2 sp p g I c M X where
  int := C.upd h.int u fun b hb x => h.sep.2.1 (hb ▸ x)
  mem := m
  len := by rw [hl]; exact h.len
  pl := h.pl
  good := h.good
  own o ho := (h.own o ho).upd u (h.sep.2.2 o ho).2.2.2.1
  pg o ho := ⟨(h.pg o ho).1.lay m u, goodP_off (h.pg o ho).2.1 hl hm (hc o ho), (h.pg o ho).2.2⟩
  ops := h.ops
  pps := h.pps
  sep := h.sep
theorem clear_used {o : OwR} {x : Nat} (h : Sg C.Int' w' sp p g I c L X) (ho : o ∈ X.L) (hb : IsBlk o.P.f o.P.s o.P.made x) (hF : x ∉ o.P.F) (hG : x ∉ o.P.G) : ClearS X x o.P.s := fun y hy b hby => by
  have gy := (h.pg y hy).2.1
  have go := (h.pg o ho).2.1
  have hyb : IsBlk y.P.f y.P.s y.P.made b := by rcases hby with e | e; exact gy.inF b e; exact gy.inG b e
  have s1 := gy.s16
  by_cases e : y = o
  · subst e
    have hne : b ≠ x := fun e => by subst e; rcases hby with e | e; exact hF e; exact hG e
    have := hyb.apart hb hne
    omega
  · have h1 := hyb.fits gy.made (Nat.le_refl (y.P.f + y.P.n * y.P.s))
    have h2 := hb.fits go.made (Nat.le_refl (o.P.f + o.P.n * o.P.s))
    have h3 : y.P.f ≤ b := by obtain ⟨i, _, e⟩ := hyb; omega
    have h4 : o.P.f ≤ x := by obtain ⟨i, _, e⟩ := hb; omega
    rcases h.good.apart hy ho e with z | z
    · left; omega
    · right; omega
/-- A block that is used is written all over. -/
theorem OSg.fill (h : OSg C sp p g I c L X w') {o : OwR} (ho : o ∈ X.L) {x cb : Nat} {a : Option Addr} {cap : Nat} (hb : IsBlk o.P.f o.P.s o.P.made x) (hF : x ∉ o.P.F) (hG : x ∉ o.P.G) (hr : Reads8 w' (.slice a 1 cap) [cb]) (hcb : cb ≤ 255) :
    Calls Tryd.prog 39 #[.pointer (some ⟨p, 0, none⟩), .int .u64 (x : Int), .int .u64 (o.P.s : Int), .slice a 1 cap] w' fun e w2 => e = .returned (.int .i64 0) ∧ ∃ M, OSg C sp p g I c M X w2 ∧ MemMath.part M x o.P.s = MemMath.rep o.P.s cb ∧ (∀ q n, q + n ≤ L.length → (q + n ≤ x ∨ x + o.P.s ≤ q) → MemMath.part M q n = MemMath.part L q n) ∧ Upd (SO p g I X) w' w2 := by
  have gp := (h.sg.pg o ho).2.1
  have hfit := hb.fits gp.made gp.fit
  have hlf : (MemMath.fill o.P.s [cb]).length = o.P.s := MemMath.length_fill ..
  have hlm : x + (MemMath.fill o.P.s [cb]).length ≤ L.length := by rw [hlf]; exact hfit
  refine (fill_any h.sg.mem x o.P.s a cap [cb] hr (fun y hy => by rw [List.mem_singleton.1 hy]; omega) (by simp) hfit).mono ?_
  rintro e w2 ⟨rfl, hm, hu⟩
  have hl := MemMath.length_splice' hlm
  have hoff : ∀ i, (i < x ∨ x + o.P.s ≤ i) → (splice L x (MemMath.fill o.P.s [cb])).getD i 0 = L.getD i 0 := fun i hi => by
    rw [MemMath.getD_splice hlm, if_neg (by rw [hlf]; omega)]
  have uS : Upd (SO p g I X) w' w2 := hu.mono fun b e => .inr (.inl e)
  refine ⟨rfl, _, h.step (h.sg.laid hm hu hl hoff (clear_used h.sg ho hb hF hG)) uS Grown.refl, ?_, fun q n hq hx => part_offW hl hoff hq hx, uS⟩
  have := MemMath.part_splice hlm
  rw [hlf] at this
  rw [this, MemMath.fill_one]
end
/-! ### Pages of which three came -/
theorem fresh_blk {f s n i j : Nat} (hi : i < j) (hj : j ≤ n) : IsBlk f s (fresh f s n j).made (f + i * s) := ⟨i, by show i < mk j n; unfold mk; omega, rfl⟩
theorem fresh_out {f s n i j : Nat} (hs : 1 ≤ s) (hi : i < j) : f + i * s ∉ (fresh f s n j).F ∧ f + i * s ∉ (fresh f s n j).G := by
  refine ⟨fun h => ?_, fun h => by cases h⟩
  obtain ⟨k, _, e⟩ := news_mem (show f + i * s ∈ news f s j (mk j n - j) from h)
  have : (i + 1) * s ≤ (j + k) * s := Nat.mul_le_mul_right s (by omega)
  rw [Nat.add_mul] at this
  omega
theorem newsOf_newW {L : List Nat} {S : PG} (g : GoodP L S) : ∃ k, ∀ x ∈ newsOf S, IsBlk S.f S.s k x ∧ ¬ IsBlk S.f S.s S.made x := by
  unfold newsOf
  split
  · exact ⟨_, fun x hx => ⟨news_blk hx, news_new (by have := g.s16; omega) hx⟩⟩
  · exact ⟨0, fun x hx => by cases hx⟩
/-- What an Alloc writes lies in no block that was made. -/
theorem alloc_part {L L' : List Nat} {S : PG} {u : Nat} (g : GoodP L S) (e : Agree L L' (newsOf S)) (hu : IsBlk S.f S.s S.made u) : MemMath.part L' u S.s = MemMath.part L u S.s := by
  obtain ⟨k, hk⟩ := newsOf_newW g
  have h3 := hu.fits g.made g.fit
  have h4 := g.s16
  refine e.part h3 fun x hx => ?_
  have h5 := hu.apart (hk x hx).1 (fun e => (hk x hx).2 (e ▸ hu))
  omega
theorem put_one {X : SG} {pp : Nat} {S : PG} {o : OwR} (h : X.L = [o]) (e : o.pp = pp) : (X.put pp S).L = [{ o with P := S }] := by
  show X.L.map _ = _
  rw [h, List.map_cons, List.map_nil, if_pos e]
theorem put_other {X : SG} {S : PG} {o : OwR} {t i : Nat} (h : (X.L.map fun o => o.pp).Nodup) (ho : X.L[t]? = some o) (hne : i ≠ t) : (X.put o.pp S).L[i]? = X.L[i]? := by
  show (X.L.map _)[i]? = _
  rw [List.getElem?_map]
  cases hi : X.L[i]? with
  | none => rfl
  | some y =>
    have hpp : y.pp ≠ o.pp := fun e => by
      have h1 : (X.L.map fun o => o.pp)[i]? = some o.pp := by rw [List.getElem?_map, hi]; show some y.pp = _; rw [e]
      have h2 : (X.L.map fun o => o.pp)[t]? = some o.pp := by rw [List.getElem?_map, ho]; rfl
      obtain ⟨l1, e1⟩ := List.getElem?_eq_some_iff.1 h1
      obtain ⟨l2, e2⟩ := List.getElem?_eq_some_iff.1 h2
      exact hne ((List.getElem_inj h).1 (e1.trans e2.symm))
    show some (if y.pp = o.pp then _ else y) = some y
    rw [if_neg hpp]
theorem put_at {X : SG} {S : PG} {o : OwR} {t : Nat} (ho : X.L[t]? = some o) : (X.put o.pp S).L[t]? = some { o with P := S } := by
  show (X.L.map _)[t]? = _
  rw [List.getElem?_map, ho]
  show some (if o.pp = o.pp then _ else o) = _
  rw [if_pos rfl]
theorem put_stay {X : SG} {S : PG} {o y : OwR} (hy : y ∈ X.L) (hne : y.pp ≠ o.pp) : y ∈ (X.put o.pp S).L := put_mem.2 ⟨y, hy, (if_neg hne).symm⟩
theorem put_len {X : SG} {S : PG} {pp : Nat} : (X.put pp S).L.length = X.L.length := List.length_map ..
end Go.Proofs.YtomepdgddpajoaaDoor
