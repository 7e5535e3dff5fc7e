/- Slices of uint64 in memory: what reads as a list of numbers, what the call itself has made, and append onto it. Over whatever program. -/
import Derived.WalkKit
import Derived.OwnWalk
import Derived.Below
import Derived.OpenShut
import Derived.Deep.AppendSrc
import Derived.Laws.OwnMore
namespace Go.Proofs.Ytfkbgejapmhppaa
open Go.RowKit

def num (n : Nat) : Value := .int .u64 (n : Int)

/-- A value that reads as a list of numbers: what lies in the cells, or an empty slice, nil or not. -/
def U64s (w : World) (v : Value) (l : List Nat) : Prop :=
  (∃ b off cap, v = .slice (some ⟨b, off, none⟩) l.length cap ∧ ∀ j, j < l.length → w.cell? ⟨b, off + j, none⟩ = some (.int .u64 ((l.getD j 0 : Nat) : Int)))
    ∨ (l = [] ∧ ∃ a cap, v = .slice a 0 cap ∧ (a = none → cap = 0))

theorem U64s.len {w : World} {a : Option Addr} {n cap : Nat} {l : List Nat} (h : U64s w (.slice a n cap) l) : n = l.length := by
  rcases h with ⟨b, off, c, e, _⟩ | ⟨rfl, a', c, e, _⟩
  · injection e
  · injection e

theorem U64s.below {w w' : World} {v : Value} {l : List Nat} (h : U64s w v l) {B : Nat} (hB : w.heap.size ≤ B) (hb : Below B w w') : U64s w' v l := by
  rcases h with ⟨b, off, cap, rfl, hc⟩ | h
  · refine .inl ⟨b, off, cap, rfl, fun j hj => ?_⟩
    have := hc j hj
    have hlt := World.block_lt_of_cell? w _ this
    rw [hb.cell (p := ⟨b, off + j, none⟩) (by simp only at hlt ⊢; omega)]; exact this
  · exact .inr h

theorem getElem?_getD {l : List Nat} {j : Nat} (hj : j < l.length) : l[j]? = some (l.getD j 0) := by
  simp [List.getD_eq_getElem?_getD, hj]
theorem getD_of_getElem? {l : List Nat} {j x : Nat} (h : l[j]? = some x) : l.getD j 0 = x := by
  simp [List.getD_eq_getElem?_getD, h]

/-- The call's own slice of numbers, not nil. -/
def Own (w : World) (base : Nat) (e : TypeId) (v : Value) (xs : List Nat) : Prop :=
  w.ownsRow base e 1 v xs.length (xs.map num) ∧ v ≠ .slice none 0 0

theorem Own.parts {w : World} {base : Nat} {e : TypeId} {v : Value} {xs : List Nat} (h : Own w base e v xs) :
    ∃ g cap cur, v = .slice (some ⟨g, 0, none⟩) xs.length cap ∧ base ≤ g ∧ w.heap[g]? = some (.cells cur e (0, 0)) ∧ xs.length ≤ cap ∧ cap ≤ maxLen ∧ cur.size = cap * 1 ∧ cur.toList.take (xs.length * 1) = xs.map num := by
  obtain ⟨⟨_, h⟩, hn⟩ := h
  rcases h with ⟨e, _⟩ | h
  · exact absurd e hn
  · exact h

theorem reads_of_row {w : World} {g : Nat} {cur : Array Value} {e : TypeId} {xs zs : List Nat} {cap : Nat} (hg : w.heap[g]? = some (.cells cur e (0, 0))) (ht : cur.toList.take (zs.length * 1) = zs.map num) (hp : xs <+: zs) :
    U64s w (.slice (some ⟨g, 0, none⟩) xs.length cap) xs := by
  refine .inl ⟨g, 0, cap, rfl, fun j hj => ?_⟩
  obtain ⟨t, rfl⟩ := hp
  rw [cell_of_row w g _ cur e (0, 0) hg, Nat.zero_add]
  have h1 : (cur.toList.take ((xs ++ t).length * 1))[j]? = some (num (xs.getD j 0)) := by
    rw [ht, List.getElem?_map, List.getElem?_append_left hj, getElem?_getD hj]; rfl
  rw [List.getElem?_take_of_lt (by simp; omega)] at h1
  simpa [num] using h1

theorem Own.reads {w : World} {base : Nat} {e : TypeId} {v : Value} {xs : List Nat} (h : Own w base e v xs) : U64s w v xs := by
  obtain ⟨g, cap, cur, rfl, _, hg, _, _, _, ht⟩ := h.parts
  exact reads_of_row hg ht (List.prefix_refl _)

theorem Own.alloc {w : World} {base : Nat} {e : TypeId} {v : Value} {xs : List Nat} (h : Own w base e v xs) (o : Obj) : Own (w.alloc o) base e v xs := ⟨h.1.alloc o, h.2⟩
theorem Own.new (w : World) (base : Nat) (e : TypeId) (hb : base ≤ w.heap.size) : Own (w.alloc (.cells #[] e)) base e (.slice (some ⟨w.heap.size, 0, none⟩) 0 0) [] :=
  ⟨World.ownsRow_made w #[] 0 hb (by simp [maxLen]) (by simp), by simp⟩

theorem Own.newAt (w : World) (base : Nat) (e : TypeId) (g : Nat) (hb : base ≤ w.heap.size) (hg : g = w.heap.size) : Own (w.alloc (.cells #[] e)) base e (.slice (some ⟨g, 0, none⟩) 0 0) [] := by
  subst hg; exact Own.new w base e hb

theorem num_one {xs : List Nat} : ∀ u ∈ xs.map num, u.oneCell' = true := by
  intro u hu
  obtain ⟨n, _, rfl⟩ := List.mem_map.1 hu
  rfl

section
variable {P : Program}
/-- append onto a slice of the call's own, of whatever reads as numbers: it holds both; what stood in the first one's places stands there still. -/
theorem run_append_u64 (w : World) (base : Nat) (t ty e : TypeId) (i : TypeInfo) (ht : P.underlying t = some (.slice e)) (hi : P.info? e = some i) (hz : i.zero = some (.int .u64 0)) (hsize : i.size = 1) (hby : i.bytes = 8)
    (v s : Value) (xs ls : List Nat) (hown : Own w base e v xs) (hs : U64s w s ls) (hlen : xs.length + ls.length ≤ 1000000000000) (hbase : base ≤ w.heap.size) :
    ∃ v' w', (Builtin.append_ #[t, t] ty #[v, s]).run P w = .ok v' w' ∧ Own w' base e v' (xs ++ ls) ∧ w.grownBy w' v.ownBlock ∧ U64s w' v xs := by
  have key : ∀ (ad : Addr) (c : Nat), s = .slice (some ad) ls.length c → (∀ j u, (ls.map num)[j]? = some u → w.cell? (ad.add j) = some u) →
      ∃ v' w', (Builtin.append_ #[t, t] ty #[v, s]).run P w = .ok v' w' ∧ Own w' base e v' (xs ++ ls) ∧ w.grownBy w' v.ownBlock ∧ U64s w' v xs := by
    rintro ad c rfl hnews
    obtain ⟨v', w', hr, ho, hg, hn⟩ := run_append_own (P := P) w base t ty e i (.int .u64 0) 1 8 ht hi hz hsize hby rfl (by decide) v xs.length (xs.map num) hown.1 ad ls.length c (ls.map num) (by simp) hnews num_one (by simp only [maxLen]; omega) (by omega) hbase
    have ho' : Own w' base e v' (xs ++ ls) := by
      refine ⟨?_, fun h => hown.2 (hn.1 h).1⟩
      rw [List.length_append, List.map_append]; exact ho
    refine ⟨v', w', hr, ho', hg, ?_⟩
    obtain ⟨g, cap, cur, rfl, _, hgg, hnc, _, hcs, htk⟩ := hown.parts
    by_cases hroom : xs.length + ls.length ≤ cap
    · have hr2 := run_append_room (P := P) w t ty e i ht hi g xs.length cap cur hgg ad ls.length c (ls.map num) (by simp [hsize]) hnews num_one hroom (by simp [hsize]; omega)
      rw [hr] at hr2
      injection hr2 with e1 e2
      obtain ⟨g', cap', cur', ev, _, hg', _, _, _, htk'⟩ := ho'.parts
      rw [e1] at ev
      injection ev with ea _ _
      injection ea with ea
      injection ea with ea _ _
      subst ea
      exact reads_of_row hg' htk' ⟨ls, rfl⟩
    · have hold : ∀ j u, (xs.map num)[j]? = some u → w.cell? ((⟨g, 0, none⟩ : Addr).add j) = some u := hown.1.cells (g := g) rfl
      have hr2 := run_append_grow (P := P) w t ty e i (.int .u64 0) ht hi hz ⟨g, 0, none⟩ xs.length cap (xs.map num) (by simp [hsize]) hold ad ls.length c (ls.map num) (by simp [hsize]) hnews (by omega) (by omega) (growslice_fits (by omega) (by rw [hby]; omega))
      rw [hr] at hr2
      injection hr2 with e1 e2
      rw [e2]
      exact U64s.below hown.reads (Nat.le_refl _) ((Below.refl _ _).drew.alloc (Nat.le_refl _) _)
  rcases hs with ⟨b, off, c, rfl, hc⟩ | ⟨rfl, a, c, rfl, hac⟩
  · refine key ⟨b, off, none⟩ c rfl (fun j u hu => ?_)
    rw [List.getElem?_map] at hu
    obtain ⟨x, hx, rfl⟩ := Option.map_eq_some_iff.1 hu
    have hj : j < ls.length := (List.getElem?_eq_some_iff.1 hx).1
    rw [Go.WideShapes.add_plain, hc j hj, getD_of_getElem? hx]; rfl
  · cases a with
    | some ad => exact key ad c rfl (fun j u hu => by simp at hu)
    | none =>
      obtain rfl := hac rfl
      have hr := run_append_owned_none (P := P) w base t ty e i 1 ht hi v xs.length (xs.map num) hown.1
      refine ⟨v, w, hr, by rw [List.append_nil]; exact hown, ⟨rfl, rfl, rfl, Nat.le_refl _, fun _ _ _ => rfl⟩, hown.reads⟩

theorem wpList_append_u64 {w : World} {ops : Array Oper} {rest : List Oper} {o : Oper} {a : Act} {Q : Exit → Act → World → Prop} (hgd : o.guard = none) (s x : Operand) (t : TypeId)
    (ho : o.op = .call { callee := .builtin .append, args := #[s, x], argTypes := #[t, t] })
    (base : Nat) (e : TypeId) (i : TypeInfo) (ht : P.underlying t = some (.slice e)) (hi : P.info? e = some i) (hz : i.zero = some (.int .u64 0)) (hsize : i.size = 1) (hby : i.bytes = 8)
    (v sv : Value) (xs ls : List Nat) (hs : a.eval s = v) (hx : a.eval x = sv) (hown : Own w base e v xs) (hsv : U64s w sv ls) (hlen : xs.length + ls.length ≤ 1000000000000) (hbase : base ≤ w.heap.size)
    (h : ∀ v' w', Own w' base e v' (xs ++ ls) → w.grownBy w' v.ownBlock → U64s w' v xs → Below base w w' → wpList P ops Q rest (a.put o.dst v') w') : wpList P ops Q (o :: rest) a w :=
  wpList_plain hgd fun K hK => by
    obtain ⟨v', w', hr, h1, h2, h3⟩ := run_append_u64 (P := P) w base t o.type e i ht hi hz hsize hby v sv xs ls hown hsv hlen hbase
    unfold Oper.wp execOp
    simp only [ho, resolve, invoke, builtin, Sem.run_bind, Sem.run_pure, Result.andThen_ok, List.map_toArray, List.map_cons, List.map_nil, hs, hx, hr]
    exact hK _ _ (h v' w' h1 h2 h3 ((Below.refl _ _).grown h2 hbase (fun k hk => (hown.1.lt k hk).1)))
end

theorem Own.drew {w : World} {base : Nat} {e : TypeId} {v : Value} {xs : List Nat} (h : Own w base e v xs) : Own w.drew base e v xs := h
theorem U64s.drew {w : World} {v : Value} {l : List Nat} (h : U64s w v l) : U64s w.drew v l := h

/-- The same as one step of a region that draws its order. -/
theorem step_append_u64 {P : Program} {w : World} {ops : Array Oper} {o : Oper} {a : Act} {K : Act → World → Prop} {Q : Exit → Act → World → Prop} {E : Prop} (hgd : o.guard = none) (s x : Operand) (t : TypeId)
    (ho : o.op = .call { callee := .builtin .append, args := #[s, x], argTypes := #[t, t] })
    (base : Nat) (e : TypeId) (i : TypeInfo) (ht : P.underlying t = some (.slice e)) (hi : P.info? e = some i) (hz : i.zero = some (.int .u64 0)) (hsize : i.size = 1) (hby : i.bytes = 8)
    (v sv : Value) (xs ls : List Nat) (hs : a.eval s = v) (hx : a.eval x = sv) (hown : Own w base e v xs) (hsv : U64s w sv ls) (hlen : xs.length + ls.length ≤ 1000000000000) (hbase : base ≤ w.heap.size)
    (h : ∀ v' w', Own w' base e v' (xs ++ ls) → w.grownBy w' v.ownBlock → U64s w' v xs → Below base w w' → K (a.put o.dst v') w') :
    if Region.wanted o (yielded ops a.tmps) = true then Oper.wp P o a w K Q else E := by
  have hw : Region.wanted o (yielded ops a.tmps) = true := by simp [Region.wanted, hgd]
  rw [if_pos hw]
  obtain ⟨v', w', hr, h1, h2, h3⟩ := run_append_u64 (P := P) w base t o.type e i ht hi hz hsize hby v sv xs ls hown hsv hlen hbase
  unfold Oper.wp execOp
  simp only [ho, resolve, invoke, builtin, Sem.run_bind, Sem.run_pure, Result.andThen_ok, List.map_toArray, List.map_cons, List.map_nil, hs, hx, hr]
  exact h v' w' h1 h2 h3 ((Below.refl _ _).grown h2 hbase (fun k hk => (hown.1.lt k hk).1))

theorem U64s.two_new (w : World) (e : TypeId) (x y : Nat) : U64s (w.alloc (.cells #[.int .u64 (x : Int), .int .u64 (y : Int)] e)) (.slice (some ⟨w.heap.size, 0, none⟩) 2 2) [x, y] :=
  reads_of_row (zs := [x, y]) (heap_alloc_new w _) rfl (List.prefix_refl _)
theorem U64s.one_new (w : World) (e : TypeId) (x : Nat) : U64s (w.alloc (.cells #[.int .u64 (x : Int)] e)) (.slice (some ⟨w.heap.size, 0, none⟩) 1 1) [x] :=
  reads_of_row (zs := [x]) (heap_alloc_new w _) rfl (List.prefix_refl _)
theorem U64s.one_at (w : World) (e : TypeId) (x g : Nat) (hg : g = w.heap.size) : U64s (w.alloc (.cells #[.int .u64 (x : Int)] e)) (.slice (some ⟨g, 0, none⟩) 1 1) [x] := by
  subst hg; exact U64s.one_new w e x
theorem U64s.two_at (w : World) (e : TypeId) (x y g : Nat) (hg : g = w.heap.size) : U64s (w.alloc (.cells #[.int .u64 (x : Int), .int .u64 (y : Int)] e)) (.slice (some ⟨g, 0, none⟩) 2 2) [x, y] := by
  subst hg; exact U64s.two_new w e x y
theorem U64s.nil (w : World) : U64s w (.slice none 0 0) [] := .inr ⟨rfl, none, 0, rfl, fun _ => rfl⟩

section
variable {P : Program}
theorem addr_zero (a : Option Addr) : a.map (fun x => x.add (0 * 1)) = a := by
  cases a with
  | none => rfl
  | some x => simp [Addr.add]

theorem slice_to (t : TypeId) (ht : P.underlying t = some (.slice (P.elem t))) (hsz : ∀ w, (sizeOf (P.elem t)).run P w = .ok 1 w) (a : Option Addr) (n cap k : Nat) (hk : k ≤ cap) :
    ∃ sv, (∀ w, (Instr.slice t (.slice a n cap) none (some (.int .i64 (k : Int))) none).run P w = .ok sv w) ∧ ∀ w l, U64s w (.slice a n cap) l → k ≤ n → U64s w sv (l.take k) := by
  refine ⟨.slice a k cap, fun w => ?_, fun w l h hkn => ?_⟩
  · rw [run_slice_h (P := P) (w := w) t a n cap ht .i64 (k : Int) (by omega) (by omega), hsz]
    simp only [Result.andThen_ok, sliced, Int.toNat_natCast, Nat.sub_zero, addr_zero, ite_self]
  · obtain rfl := h.len
    rcases h with ⟨b, off, c, e, hc⟩ | ⟨rfl, a', c, e, hac⟩
    · injection e with e1 _ e3
      subst e1 e3
      have hl : (l.take k).length = k := by simp; omega
      refine .inl ⟨b, off, cap, by rw [hl], fun j hj => ?_⟩
      rw [hl] at hj
      rw [hc j (by omega)]
      simp [List.getD_eq_getElem?_getD, List.getElem?_take_of_lt hj]
    · injection e with e1 _ e3
      subst e1 e3
      have : k = 0 := by simpa using hkn
      subst this
      exact .inr ⟨by simp, a, cap, rfl, hac⟩

theorem slice_from (t : TypeId) (ht : P.underlying t = some (.slice (P.elem t))) (hsz : ∀ w, (sizeOf (P.elem t)).run P w = .ok 1 w) (a : Option Addr) (n cap k : Nat) (hk : k ≤ n) (hn : n ≤ cap) :
    ∃ sv, (∀ w, (Instr.slice t (.slice a n cap) (some (.int .i64 (k : Int))) none none).run P w = .ok sv w) ∧ ∀ w l, U64s w (.slice a n cap) l → U64s w sv (l.drop k) := by
  refine ⟨sliced a k n cap 1, fun w => ?_, fun w l h => ?_⟩
  · rw [run_slice_l (P := P) (w := w) t a n cap ht .i64 (k : Int) (by omega) (by omega), hsz]
    simp only [Result.andThen_ok, Int.toNat_natCast]
  · obtain rfl := h.len
    rcases h with ⟨b, off, c, e, hc⟩ | ⟨rfl, a', c, e, hac⟩
    · injection e with e1 _ e3
      subst e1 e3
      by_cases hck : cap = k
      · have hd : l.drop k = [] := List.drop_eq_nil_of_le (by omega)
        refine .inr ⟨hd, some ⟨b, off, none⟩, cap - k, ?_, by simp⟩
        simp only [sliced, if_pos hck]
        rw [show l.length - k = 0 by omega]
      · have hl : (l.drop k).length = l.length - k := List.length_drop
        refine .inl ⟨b, off + k, cap - k, ?_, fun j hj => ?_⟩
        · simp only [sliced, if_neg hck, Option.map_some, Nat.mul_one, Go.WideShapes.add_plain, hl]
        · rw [hl] at hj
          rw [Nat.add_assoc, hc (k + j) (by omega)]
          simp [List.getD_eq_getElem?_getD, List.getElem?_drop]
    · injection e with e1 _ e3
      subst e1 e3
      have : k = 0 := by simpa using hk
      subst this
      refine .inr ⟨by simp, a, cap, ?_, hac⟩
      simp only [sliced, addr_zero, ite_self, Nat.sub_zero]
      rfl
end

/-- What a slice of numbers that came in reads as. -/
def IsU64s (w : World) (v : Value) (l : List Nat) : Prop := U64s w v l ∧ (∀ x ∈ l, x ≤ 18446744073709551615) ∧ l.length ≤ 9223372036854775807 ∧ (∀ a n cap, v = .slice a n cap → n ≤ cap ∧ cap ≤ 9223372036854775807)

theorem IsU64s.ofNil {w : World} : IsU64s w (.slice none 0 0) [] :=
  ⟨.inr ⟨rfl, none, 0, rfl, fun _ => rfl⟩, by simp, by simp, by intro a n cap h; injection h; omega⟩

theorem u64_bounds {n : Int} (h : (Lit.int .u64 n).wf = true) : 0 ≤ n ∧ n ≤ 18446744073709551615 := by
  simp [Lit.wf, IntKind.min, IntKind.max, IntKind.signed, IntKind.bits] at h; omega

theorem IsU64s.ofRow {w : World} {x : Addr} {len cap : Nat} {zs : List Int} (hl : len ≤ cap) (hm : cap ≤ maxLen) (hz : zs.length = cap) (hc : ∀ i, i < zs.length → w.cell? (x.add i) = some (.int .u64 (zs.getD i 0)))
    (hw : ∀ n ∈ zs, (Lit.int .u64 n).wf = true) : IsU64s w (.slice (some x) len cap) ((zs.take len).map Int.toNat) := by
  have hlen : ((zs.take len).map Int.toNat).length = len := by simp; omega
  have hm' : cap ≤ 9223372036854775807 := by simp only [maxLen] at hm; omega
  refine ⟨?_, ?_, by omega, by intro a n c h; injection h; omega⟩
  · by_cases h0 : 0 < zs.length
    · obtain ⟨b, off, rfl, hc'⟩ := ints_at hc h0
      refine .inl ⟨b, off, cap, by rw [hlen], fun j hj => ?_⟩
      rw [hlen] at hj
      rw [hc' j (by omega)]
      have hb := u64_bounds (hw (zs.getD j 0) (by simp [List.getD_eq_getElem?_getD, (show j < zs.length by omega)]))
      have e : ((zs.take len).map Int.toNat).getD j 0 = (zs.getD j 0).toNat := by
        simp [List.getD_eq_getElem?_getD, List.getElem?_take_of_lt hj, (show j < zs.length by omega)]
      rw [e, Int.toNat_of_nonneg hb.1]
    · have : zs = [] := List.length_eq_zero_iff.1 (by omega)
      subst this
      obtain rfl : len = 0 := by simp at hz; omega
      exact .inr ⟨by simp, some x, cap, rfl, by simp⟩
  · intro y hy
    obtain ⟨n, hn, rfl⟩ := List.mem_map.1 hy
    have hb := u64_bounds (hw n (List.mem_of_mem_take hn))
    omega

end Go.Proofs.Ytfkbgejapmhppaa
