/- What HeapApart needs of a heap (layer 12): writing into a block that is used, reading it; the blocks that the law noted. -/
import Derived.Test.YtmjeelnidiijdaaGreatDoorGets12
import Derived.Test.YtmjeelnidiijdaaGreatDoorMems12
import Derived.Test.YtmjeelnidiijdaaGreatDoorOne12
namespace Go.Proofs.YtmjeelnidiijdaaGreatDoor
open Go.RowKit ListMath PageMath GeoMath SegMath ClassMath HeapMath QueueMath ArenaMath
set_option linter.unusedVariables false
section
variable {w0 w w' : World} {C : SgC w0} {p g sp : Nat} {I : Nat → Prop} {c : Addr} {L L' : List Nat} {X : SG}
/-- Written into the memory where no page lies in between: a segment is as it was. -/
theorem Sg.write (h : Sg C.Int' w sp p g I c L X) (m : IsMem w' p g L') (u : Upd (fun k => k = g) w w') (hl : L'.length = L.length) (hg : ∀ o ∈ X.L, GoodP L' o.P) : Sg C.Int' w' sp p g I c L' X where
  int := C.upd h.int u fun b hb x => h.sep.2.1 (hb ▸ x)
  mem := m
  len := by rw [hl]; exact h.len
  pl := h.pl
  good := h.good
  own o ho := (h.own o ho).upd u fun x => (h.sep.2.2 o ho).2.2.2.1 x
  pg o ho := ⟨(h.pg o ho).1.beside m u (fun x => (h.pg o ho).1.ng x), hg o ho, (h.pg o ho).2.2⟩
  ops := h.ops
  pps := h.pps
  sep := h.sep
end
section
variable {w0 w w' w2 : World} {C : SgC w0} {K : HpC w0 C} {h id p g q : Nat} {L L' U U' : List Nat} {A A' : St} {H H' : HS} {S : Nat → Prop} {v v2 : Value} {l l2 : List (Nat × Nat × Nat)} {X : SG} {o : OwR}
theorem OX.mem (z : OX C K h id p g q H A L U S w) : IsMem w p g L := by
  obtain ⟨⟨O, own, B, hz, h1, h3, h4⟩, h5, h6⟩ := z
  exact hz.env.shop.mem
/-- All bytes of a used block are filled. -/
theorem ox_fill (z : OX C K h id p g q H A L U S w) {x c s : Nat} {a : Option Addr} {cp : Nat} (hx : x ∈ U) (hX : X ∈ H.B) (ho : o ∈ X.L) (hb : IsBlk o.P.f o.P.s o.P.made x) (hs : o.P.s = s) (hr : Reads8 w (.slice a 1 cp) [c]) (hc : c < 256) :
    Calls Tryz.prog 17 #[.pointer (some ⟨p, 0, none⟩), .int .u64 (x : Int), .int .u64 (s : Int), .slice a 1 cp] w fun e w' => e = .returned (.int .i64 0) ∧ ∃ L', L'.length = L.length ∧ (∀ i, i < x ∨ x + s ≤ i → L'.getD i 0 = L.getD i 0) ∧ (∀ i, x ≤ i → i < x + s → L'.getD i 0 = c) ∧ OX C K h id p g q H A L' U S w' ∧ Still S w w' := by
  subst hs
  have hgood := z.good
  obtain ⟨⟨O, own, B, hz, h1, h3, h4⟩, h5, h6⟩ := z
  have ko := (h3.wh X hX o ho).1
  have hfit : x + o.P.s ≤ L.length := hb.fits ko.made ko.fit
  refine (fill_any hz.env.shop.mem x o.P.s a cp [c] hr (MemMath.Byt.cons hc MemMath.Byt.nil) (by simp) hfit).mono ?_
  rintro e w' ⟨rfl, m, u⟩
  rw [MemMath.fill_one] at m
  have hl9 : x + (MemMath.rep o.P.s c).length ≤ L.length := by rw [MemMath.length_rep]; exact hfit
  have hlen := MemMath.length_splice' hl9
  have hgd := MemMath.getD_splice hl9
  rw [MemMath.length_rep] at hgd
  obtain ⟨L', hL'⟩ : ∃ L', splice L x (MemMath.rep o.P.s c) = L' := ⟨_, rfl⟩
  rw [hL'] at m hlen hgd
  have hout : ∀ i, i < x ∨ x + o.P.s ≤ i → L'.getD i 0 = L.getD i 0 := fun i hi => by rw [hgd, if_neg (by omega)]
  have hin : ∀ i, x ≤ i → i < x + o.P.s → L'.getD i 0 = c := fun i h1 h2 => by rw [hgd, if_pos ⟨h1, h2⟩, MemMath.getD_rep (by omega)]
  have hu' := h3.write hgood hX ho hx hb hlen hout
  have hlo : ∀ k, k = g → w0.heap.size ≤ k ∧ ¬ S k := fun k e => h4 k (.inr (.inr (.inl e)))
  have hbw : Below w0.heap.size w w' := u.below (fun k hk => (hlo k hk).1) h5.size
  have hsg : ∀ b ∈ B ++ [], Sg C.Int' w' b.sp p g b.I b.c L' b.X := fun b hb => (hz.env.shop.sg b hb).write m u hlen fun o' ho' => (hu'.wh b.X (by rw [← h1]; rw [List.append_nil] at hb; exact List.mem_map.2 ⟨b, hb, rfl⟩) o' ho').1
  have henv : Env C w' p g q own L' A (B ++ []) := ⟨⟨m, hsg, hz.env.shop.ap, hz.env.shop.nd⟩, hz.env.ar.upd u (fun k hk e => (hz.env.ao k hk).2.1 e), by rw [hlen]; exact hz.env.size, hz.env.pls, hz.env.ao⟩
  have hz' : Hz C K.Hp w' h O id p g q own L' A B [] H.Q := ⟨K.upd hz.hp u fun k hk x => hz.ap k x (.inr (.inl hk)), henv, hz.good, hz.ap, hz.lo⟩
  exact ⟨rfl, L', hlen, hout, hin, ⟨⟨O, own, B, hz', h1, hu', h4⟩, h5.trans hbw, fun k hk => Nat.lt_of_lt_of_le (h6 k hk) hbw.size⟩, u.mono fun k hk => (hlo k hk).2⟩
/-- What is read out of it. -/
theorem got_all (m : IsMem w p g L) {x s c : Nat} (hfit : x + s ≤ L.length) (ht : ∀ i, x ≤ i → i < x + s → L.getD i 0 = c) :
    Calls Tryz.prog 18 #[.pointer (some ⟨p, 0, none⟩), .int .u64 (x : Int), .int .u64 (s : Int)] w fun e w' => ∃ b cp, e = .returned (.tuple #[.slice (some ⟨b, 0, none⟩) s cp, .int .i64 0]) ∧ (∀ i, i < s → w'.cell? ⟨b, i, none⟩ = some (.int .u8 (c : Int))) ∧ Below w.heap.size w w' := by
  refine (get_ok m x s hfit).mono ?_
  rintro e w' ⟨b, z, rfl, hb, _, u⟩
  have hl := MemMath.length_part hfit
  refine ⟨b, s + z, by rw [hl], fun i hi => ?_, u.below (fun k hk => hk.elim) (Nat.le_refl _)⟩
  have h1 := hb.cell i (by rw [List.length_append, hl]; omega)
  have h2 : (MemMath.part L x s ++ List.replicate z 0).getD i 0 = c := by
    rw [List.getD_eq_getElem?_getD, List.getElem?_append_left (by rw [hl]; exact hi), ← List.getD_eq_getElem?_getD, MemMath.getD_part hi]
    exact ht _ (by omega) (by omega)
  rw [h2] at h1
  exact h1
/-- A block lies on a multiple of sixteen. -/
theorem blk16 (gg : GoodG X) (ho : o ∈ X.L) {m x : Nat} (hb : IsBlk o.P.f o.P.s m x) : x % 16 = 0 := by
  obtain ⟨i, _, rfl⟩ := hb
  have hf := gg.run o ho
  unfold fromS at hf
  obtain ⟨k, hk⟩ : ∃ k, o.P.s = 16 * k := by
    rcases gg.cls o ho with ⟨_, _, e⟩ | ⟨c, hc, _, _, e, _⟩
    · exact ⟨o.wd * 64, by omega⟩
    · have h16 : sizeAt c % 16 = 0 := below12 (P := fun c => sizeAt c % 16 = 0) (by decide) c hc
      exact ⟨sizeAt c / 16, by omega⟩
  rw [hf, hk, Nat.mul_left_comm]
  omega
/-- Where it is read. -/
theorem HeapMath.Sized.blk (gd : GoodH H) (hu : HU H L U) (hz : Sized H l) (hU : ∀ x ∈ l, x.1 ∈ U) {x : Nat × Nat × Nat} (hx : x ∈ l) : ∃ X ∈ H.B, ∃ o ∈ X.L, IsBlk o.P.f o.P.s o.P.made x.1 ∧ o.P.s = x.2.1 := by
  obtain ⟨X, hX, o, ho, hr, hs⟩ := hz x hx
  exact ⟨X, hX, o, ho, hu.page gd (hU x hx) hX ho hr, hs⟩
theorem sized_in (gd : GoodH H) (hu : HU H L U) (hz : Sized H l) (hU : ∀ x ∈ l, x.1 ∈ U) {x : Nat × Nat × Nat} (hx : x ∈ l) : x.1 + x.2.1 ≤ L.length ∧ L.length ≤ 1048576 := by
  obtain ⟨X, hX, o, ho, hb, hs⟩ := HeapMath.Sized.blk gd hu hz hU hx
  have ko := (hu.wh X hX o ho).1
  rw [← hs]
  exact ⟨hb.fits ko.made ko.fit, ko.big⟩
theorem sized_apart (gd : GoodH H) (hu : HU H L (l.map (·.1))) (hz : Sized H l) {i j : Nat} {x y : Nat × Nat × Nat} (hi : l[i]? = some x) (hj : l[j]? = some y) (hij : i ≠ j) : x.1 + x.2.1 ≤ y.1 ∨ y.1 + y.2.1 ≤ x.1 := by
  have hxl := List.mem_of_getElem? hi
  have hyl := List.mem_of_getElem? hj
  have hU : ∀ x ∈ l, x.1 ∈ l.map (·.1) := fun x hx => List.mem_map.2 ⟨x, hx, rfl⟩
  obtain ⟨X, hX, o, ho, hb, hs⟩ := HeapMath.Sized.blk gd hu hz hU hxl
  obtain ⟨Z, hZ, u, hu', hb', hs'⟩ := HeapMath.Sized.blk gd hu hz hU hyl
  have hne : x.1 ≠ y.1 := fun e => by
    have hn := hu.nd
    have h1 : (l.map (·.1))[i]? = some x.1 := by rw [List.getElem?_map, hi]; rfl
    have h2 : (l.map (·.1))[j]? = some x.1 := by rw [List.getElem?_map, hj, e]; rfl
    obtain ⟨hil, h1⟩ := List.getElem?_eq_some_iff.1 h1
    obtain ⟨hjl, h2⟩ := List.getElem?_eq_some_iff.1 h2
    rcases Nat.lt_or_gt_of_ne hij with hlt | hlt
    · exact (List.pairwise_iff_getElem.1 hn i j hil hjl hlt) (h1.trans h2.symm)
    · exact (List.pairwise_iff_getElem.1 hn j i hjl hil hlt) (h2.trans h1.symm)
  have := hu.apart gd (hU x hxl) (hU y hyl) hne hX ho hZ hu' hb hb'
  rw [hs, hs'] at this
  exact this
/-- One more is noted. -/
theorem told_add (gd : GoodH H) {x c s : Nat} (hu : HU H L (l.map (·.1) ++ [x])) (ht : Told L l) (hz : Sized H l) (hX : X ∈ H.B) (ho : o ∈ X.L) (hb : IsBlk o.P.f o.P.s o.P.made x) (hs : o.P.s = s) (hout : ∀ i, i < x ∨ x + s ≤ i → L'.getD i 0 = L.getD i 0) (hin : ∀ i, x ≤ i → i < x + s → L'.getD i 0 = c) : Told L' (l ++ [(x, s, c)]) ∧ Sized H (l ++ [(x, s, c)]) := by
  have ko := (hu.wh X hX o ho).1
  have hU : ∀ x' ∈ l, x'.1 ∈ l.map (·.1) ++ [x] := fun x' hx' => List.mem_append_left _ (List.mem_map.2 ⟨x', hx', rfl⟩)
  have hxU : x ∈ l.map (·.1) ++ [x] := List.mem_append_right _ (List.mem_singleton.2 rfl)
  refine ⟨fun y hy i h1 h2 => ?_, fun y hy => ?_⟩
  · rcases List.mem_append.1 hy with hy | hy
    · obtain ⟨Z, hZ, u, hu2, hb2, hs2⟩ := HeapMath.Sized.blk gd hu hz hU hy
      have hne : y.1 ≠ x := fun e => by
        have hn := hu.nd
        rw [List.nodup_append] at hn
        exact hn.2.2 _ (List.mem_map.2 ⟨y, hy, rfl⟩) _ (List.mem_singleton.2 rfl) e
      have := hu.apart gd (hU y hy) hxU hne hZ hu2 hX ho hb2 hb
      rw [hs2, hs] at this
      rw [hout i (by omega)]
      exact ht y hy i h1 h2
    · rw [List.mem_singleton.1 hy] at h1 h2 ⊢
      exact hin i h1 h2
  · rcases List.mem_append.1 hy with hy | hy
    · exact hz y hy
    · rw [List.mem_singleton.1 hy]
      exact ⟨X, hX, o, ho, inRun_blk hb ko.made ko.s16, hs⟩
/-- One fewer. -/
theorem cut_perm {k : Nat} {x : Nat × Nat × Nat} (hk : l[k]? = some x) : (x.1 :: (l.take k ++ l.drop (k + 1)).map (·.1)).Perm (l.map (·.1)) := by
  obtain ⟨hlt, e⟩ := List.getElem?_eq_some_iff.1 hk
  have h1 : l = l.take k ++ x :: l.drop (k + 1) := by rw [← e, List.getElem_cons_drop, List.take_append_drop]
  have h2 : (x :: (l.take k ++ l.drop (k + 1))).Perm l := by
    conv => rhs; rw [h1]
    exact List.perm_middle.symm
  exact h2.map (·.1)
theorem told_cut {k : Nat} (ht : Told L l) (hz : Sized H l) (e : EntK H L H' L' ((l.take k ++ l.drop (k + 1)).map (·.1))) : Told L' (l.take k ++ l.drop (k + 1)) ∧ Sized H' (l.take k ++ l.drop (k + 1)) := by
  have hs : ∀ y ∈ l.take k ++ l.drop (k + 1), y ∈ l := fun y hy => (List.mem_append.1 hy).elim List.mem_of_mem_take List.mem_of_mem_drop
  exact (ht.less hs).kept (fun y hy => hz y (hs y hy)) (fun y hy => List.mem_map.2 ⟨y, hy, rfl⟩) e
/-- A heap of the law's own, beside what the law noted. -/
structure OA (C : SgC w0) (K : HpC w0 C) (h id p g q : Nat) (H : HS) (A : St) (L U : List Nat) (v : Value) (l : List (Nat × Nat × Nat)) (w : World) : Prop where
  z : OX C K h id p g q H A L U (In v) w
  vec : Vec oneE w v l
  lo : ∀ k, In v k → w0.heap.size ≤ k
theorem OX.oa (z : OX C K h id p g q H A L U S w) : OA C K h id p g q H A L U (.slice none 0 0) [] w := ⟨z.forget fun k hk => (by cases hk), Vec.nil _, fun k hk => by cases hk⟩
theorem OA.grew (z : OA C K h id p g q H A L U v l w) (hb : Below w.heap.size w w') : OA C K h id p g q H A L U v l w' := ⟨z.z.grew hb, z.vec.upd (updFalse_of hb) fun _ _ x => x, z.lo⟩
theorem OA.drew (z : OA C K h id p g q H A L U v l w) : OA C K h id p g q H A L U v l w.drew := z.grew (Below.refl _ _).drew
theorem OA.alloc (z : OA C K h id p g q H A L U v l w) (o : Obj) : OA C K h id p g q H A L U v l (w.alloc o) := z.grew ((Below.refl _ _).alloc (Nat.le_refl _) o)
/-- Behind a call on the heap. -/
theorem OA.next (z : OA C K h id p g q H A L U v l w) (y : OX C K h id p g q H' A' L' U' (In v) w') (u : Still (In v) w w') : OA C K h id p g q H' A' L' U' v l w' := ⟨y, z.vec.upd u fun k hk e => e hk, z.lo⟩
/-- Another slice in its place: written where the first one lies, or new. -/
theorem OA.turn (z : OA C K h id p g q H A L U v l w) (u : Upd (In v) w w') (hv : Vec oneE w' v2 l2) (h2 : ∀ k, In v2 k → In v k ∨ w.heap.size ≤ k) : OA C K h id p g q H A L U v2 l2 w' := by
  obtain ⟨⟨⟨O, own, B, hz, h1, h3, h4⟩, h5, h6⟩, hvec, hlo⟩ := z
  have hb : Below w0.heap.size w w' := u.below hlo h5.size
  have hz' := hz.upd u fun k hk => ⟨fun e => (h4 k (.inl e)).2 hk, fun e => (h4 k (.inr (by rw [List.append_nil] at e; exact e))).2 hk⟩
  refine ⟨⟨⟨O, own, B, hz', h1, h3, fun k hk => ⟨(h4 k hk).1, fun e => ?_⟩⟩, h5.trans hb, fun k hk => hv.lt hk⟩, hv, fun k hk => (h2 k hk).elim (hlo k) fun e => Nat.le_trans h5.size e⟩
  rcases h2 k e with e | e
  · exact (h4 k hk).2 e
  · have := HO.lt hz hk; omega
theorem OA.cells {a : Option Addr} {n cap j : Nat} {x : Nat × Nat × Nat} (z : OA C K h id p g q H A L U (.slice a n cap) l w) (hx : l[j]? = some x) : ∃ b off, a = some ⟨b, off, none⟩ ∧ ∀ w', Below w.heap.size w w' → w'.cell? ⟨b, off + j * 3, none⟩ = some (.int .u64 (x.1 : Int)) ∧ w'.cell? ⟨b, off + j * 3 + 1, none⟩ = some (.int .u64 (x.2.1 : Int)) ∧ w'.cell? ⟨b, off + j * 3 + 2, none⟩ = some (.int .u8 (x.2.2 : Int)) := by
  obtain ⟨b, off, e, hc⟩ := z.vec.seq.elem hx
  have c0 := hc 0 _ rfl
  have c1 := hc 1 _ rfl
  have c2 := hc 2 _ rfl
  have hct : ∀ {q : Addr} {v : Value} {w' : World}, w.cell? q = some v → Below w.heap.size w w' → w'.cell? q = some v := fun {q v w'} h hb => (hb.cell (p := q) (World.block_lt_of_cell? w _ h)).trans h
  exact ⟨b, off, e, fun w' hb => ⟨hct c0 hb, hct c1 hb, hct c2 hb⟩⟩
end
end Go.Proofs.YtmjeelnidiijdaaGreatDoor
