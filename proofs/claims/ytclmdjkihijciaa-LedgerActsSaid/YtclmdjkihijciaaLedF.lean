/- slices.Insert of one entry, slices.Delete of one: contracts. -/
import Derived.Test.YtclmdjkihijciaaLedE
import Derived.Lib.Overlaps
import Derived.Lib.AppendZerosOnto
import Derived.Laws.IdiomCopy
import Derived.Laws.Externs
import Derived.RegionTactic
namespace Go.Proofs.Ytclmdjkihijciaa
open Go.RowKit LedMath
set_option linter.unusedVariables false

section
variable {P : Program}
/-- copy, of elements of whatever size: all is read before anything is written. -/
theorem run_copy_of (w : World) (dT sT ty elem : TypeId) (b o dLen dCap : Nat) (a : Addr) (sLen sCap k sz : Nat) (cs : List Value)
    (hu : P.underlying dT = some (.slice elem)) (hs : (P.info? elem).map (·.size) = some sz) (hk : Nat.min sLen dLen = k) (hn : cs.length = k * sz)
    (hsrc : ∀ j v, cs[j]? = some v → w.cell? (a.add j) = some v) (hc : ∀ j, j < cs.length → (w.cell? ⟨b, o + j, none⟩).isSome = true) (hf : ∀ j, j < cs.length → w.frozen? ⟨b, o + j, none⟩ = false) (h1 : ∀ v ∈ cs, v.oneCell' = true) :
    (Builtin.copy_ #[dT, sT] ty #[.slice (some ⟨b, o, none⟩) dLen dCap, .slice (some a) sLen sCap]).run P w = .ok (goInt k) (w.setCells b o cs) := by
  have hl := run_loadCells_list (P := P) w a cs hsrc
  have hst := run_storeCells_cells (P := P) b o cs 0 w (by simpa using hc) (by simpa using hf) h1
  cases hq : P.info? elem with
  | none => simp [hq] at hs
  | some i =>
    have hi : i.size = sz := by simpa [hq] using hs
    simp [Builtin.copy_, run_underlying hu, Builtin.lenOf, Builtin.firstCells, sizeOf, typeInfo, hq, hi, hk, ← hn, hl, hst]
theorem wpList_copy_of (w : World) {ops : Array Oper} {rest : List Oper} {o : Oper} {a : Act} {Q : Exit → Act → World → Prop} (hgd : o.guard = none) (d s : Operand) (t t' : TypeId)
    (ho : o.op = .call { callee := .builtin .copy, args := #[d, s], argTypes := #[t, t'] }) (v u : Value) (hd : a.eval d = v) (hs : a.eval s = u) {v' : Value} {w' : World}
    (hr : (Builtin.copy_ #[t, t'] o.type #[v, u]).run P w = .ok v' w') (h : wpList P ops Q rest (a.put o.dst v') w') : wpList P ops Q (o :: rest) a w :=
  wpList_plain hgd fun K hK => by
    unfold Oper.wp execOp
    simp only [ho, resolve, invoke, builtin, Sem.run_bind, Sem.run_pure, Result.andThen_ok, List.map_toArray, List.map_cons, List.map_nil, hd, hs, hr]
    exact hK _ _ h
theorem step_copy_of {ops : Array Oper} {o : Oper} {a : Act} {w : World} {K : Act → World → Prop} {Q : Exit → Act → World → Prop} {E : Prop}
    (hg : o.guard = none) (d x : Operand) (dT sT : TypeId) (hop : o.op = Op.call { callee := Callee.builtin Builtin.copy, args := #[d, x], argTypes := #[dT, sT] })
    (v u : Value) (hd : a.eval d = v) (hx : a.eval x = u) {v' : Value} {w' : World} (hr : (Builtin.copy_ #[dT, sT] o.type #[v, u]).run P w = .ok v' w') (hK : K (a.put o.dst v') w') :
    if Region.wanted o (yielded ops a.tmps) = true then Oper.wp P o a w K Q else E := by
  have hw : Region.wanted o (yielded ops a.tmps) = true := by simp [Region.wanted, hg]
  rw [if_pos hw]
  unfold Oper.wp
  simp [execOp, hop, resolve, invoke, builtin, hd, hx, hr, Result.andThen]
  exact hK
end
theorem set_some (b : Nat) (vs : List Value) (o : Nat) (w : World) (h : ∀ j, j < vs.length → (w.cell? ⟨b, o + j, none⟩).isSome = true) (k : Nat) (hk : (w.cell? ⟨b, k, none⟩).isSome = true) : ((w.setCells b o vs).cell? ⟨b, k, none⟩).isSome = true :=
  World.isSome_setCells b vs o w _ hk
theorem shape_of {w : World} {b o : Nat} (h : (w.cell? ⟨b, o, none⟩).isSome = true) : ∃ t k, w.shape? b = some (t, k) ∧ k ≠ 0 := by
  unfold World.cell? at h
  unfold World.shape?
  cases hb : w.heap[b]? with
  | none => simp [hb] at h
  | some x =>
    cases x with
    | cells c t z =>
      simp [hb] at h
      exact ⟨t, c.size, rfl, by omega⟩
    | _ => simp [hb] at h
theorem infoE : (Try.prog.info? 54).map (fun i => (i.zero, i.size, i.bytes)) = some (some (.agg #[.int .u64 0, .int .u64 0, .int .u64 0, .bool false]), 4, 32) := by kernel_rfl
theorem sizeE : (Try.prog.info? 54).map (·.size) = some 4 := by kernel_rfl
theorem sizeOfE : ∀ w, (sizeOf 54).run Try.prog w = .ok 4 w := fun w => by kernel_rfl
/-- Cells that read as a row with one put in. -/
theorem ins_cells {w : World} {g off i : Nat} {l : List En} {e : En} (hi : i ≤ l.length) (h0 : ∀ j, j < i * 4 → w.cell? ⟨g, off + j, none⟩ = (Elem.ents.all l)[j]?) (h1 : ∀ j u, (Elem.ents.put e)[j]? = some u → w.cell? ⟨g, off + i * 4 + j, none⟩ = some u)
    (h2 : ∀ j u, (Elem.ents.all (l.drop i))[j]? = some u → w.cell? ⟨g, off + (i + 1) * 4 + j, none⟩ = some u) : ∀ j u, (Elem.ents.all (l.take i ++ e :: l.drop i))[j]? = some u → w.cell? ⟨g, off + j, none⟩ = some u := by
  intro j u hj
  have ea : Elem.ents.all (l.take i ++ e :: l.drop i) = (Elem.ents.all l).take (i * 4) ++ (Elem.ents.put e ++ Elem.ents.all (l.drop i)) := by
    rw [Elem.all_append, Elem.all_cons, Elem.all_take]; rfl
  have hlen : ((Elem.ents.all l).take (i * 4)).length = i * 4 := by
    rw [List.length_take, Elem.length_all]; exact Nat.min_eq_left (Nat.mul_le_mul_right _ hi)
  rw [ea] at hj
  by_cases c1 : j < i * 4
  · rw [List.getElem?_append_left (by rw [hlen]; exact c1), List.getElem?_take_of_lt c1] at hj
    rw [h0 j c1]; exact hj
  · rw [List.getElem?_append_right (by rw [hlen]; omega), hlen] at hj
    by_cases c2 : j < i * 4 + 4
    · rw [List.getElem?_append_left (by show j - i * 4 < 4; omega)] at hj
      rw [show off + j = off + i * 4 + (j - i * 4) by omega]
      exact h1 _ _ hj
    · rw [List.getElem?_append_right (by show 4 ≤ j - i * 4; omega)] at hj
      rw [show off + j = off + (i + 1) * 4 + (j - i * 4 - 4) by omega]
      exact h2 _ _ hj
theorem oneAt (w : World) {vb : Nat} {e : En} {t : TypeId} (hb : Blk w vb t (Elem.ents.put e).toArray) : ∀ j u, (Elem.ents.put e)[j]? = some u → w.cell? ⟨vb, 0 + j, none⟩ = some u := fun j u hj => by
  rw [Nat.zero_add, Blk.cell hb, List.getElem?_toArray]; exact hj
theorem take_full {l : List En} {e : En} {i : Nat} (h : i = l.length) : l.take i ++ e :: l.drop i = l ++ [e] := by
  subst h; rw [List.take_length, List.drop_length]
set_option maxHeartbeats 4000000 in
set_option maxRecDepth 100000 in
/-- Behind the last: append. -/
theorem ins_end (w : World) {v : Value} {l : List En} {e : En} {vb : Nat} (hv : Vec Elem.ents w v l) (hl : l.length ≤ 1048576) (hb : Blk w vb 54 (Elem.ents.put e).toArray) :
    Calls Try.prog 29 #[v, .int .i64 (l.length : Int), .slice (some ⟨vb, 0, none⟩) 1 1] w fun r w' =>
      ∃ v', r = .returned v' ∧ Vec Elem.ents w' v' (l ++ [e]) ∧ Upd (In v) w w' ∧ ∀ k, In v' k → In v k ∨ w.heap.size ≤ k := by
  obtain ⟨i0, hi, hz0, hz1, hz2⟩ := info_parts infoE
  have SV : Hid (Seq Elem.ents w (.slice (some ⟨vb, 0, none⟩) 1 1) [e]) := Lib.hid (.inl ⟨vb, 0, 1, rfl, fun j u hj => by rw [Elem.all_one] at hj; exact oneAt w hb j u hj⟩)
  obtain ⟨a, cap, rfl, hn, hc⟩ := hv.slice'
  obtain ⟨n, hN⟩ : ∃ n, l.length = n := ⟨_, rfl⟩
  have HN := Lib.hid hN
  rw [hN] at hv hn hl ⊢
  have HV := Lib.hid hv
  have w1 : decide ((n : Int) = (n : Int)) = true := decide_eq_true rfl
  obtain ⟨sv, hsv⟩ : ∃ sv, ∀ w, (Instr.slice 52 (.slice a n cap) (some (.int .i64 (n : Int))) none none).run Try.prog w = .ok sv w := by
    obtain ⟨sv, h, _⟩ := cut_from (E := Elem.ents) (P := Try.prog) 52 Try.underlying52 (fun w => sizeOfE w) a n cap n (Nat.le_refl _) hn
    exact ⟨sv, h⟩
  have hbt : (l.length + [e].length) * 32 ≤ 140737488355328 := by rw [hN]; simp; omega
  have h63 : l.length + [e].length ≤ maxLen := by rw [hN]; simp [maxLen]; omega
  have HB := Lib.hid hbt; have H63 := Lib.hid h63
  clear hv hb hN hbt h63
  go_enter Try.func29, Try.ntmps29
  go_wp2_with (at_builtin; refine wpList_append_vec rfl _ _ 52 rfl 54 i0 _ 32 Try.underlying52 hi hz0 hz1 hz2 rfl _ _ l [e] rfl rfl HV.out SV.out H63.out HB.out ?_; intro v' w' hv' hu' hin'; have V' := Lib.hid hv'; have U' := Lib.hid hu'; have IN' := Lib.hid hin'; clear hv' hu' hin')
  go_ret
  exact ⟨_, rfl, V'.out, U'.out, IN'.out⟩

set_option maxHeartbeats 4000000 in
set_option maxRecDepth 100000 in
/-- In the midst, where there is room: in place. -/
theorem ins_mid (w : World) {g off n cap i vb : Nat} {l : List En} {e : En} (hv : Vec Elem.ents w (.slice (some ⟨g, off, none⟩) n cap) l) (hi : i < n) (hl : l.length ≤ 1048576) (hroom : n + 1 ≤ cap) (hb : Blk w vb 54 (Elem.ents.put e).toArray) (hvb : vb ≠ g) :
    Calls Try.prog 29 #[.slice (some ⟨g, off, none⟩) n cap, .int .i64 (i : Int), .slice (some ⟨vb, 0, none⟩) 1 1] w fun r w' =>
      ∃ v', r = .returned v' ∧ Vec Elem.ents w' v' (l.take i ++ e :: l.drop i) ∧ Upd (fun k => k = g) w w' ∧ ∀ k, In v' k → k = g := by
  obtain rfl := hv.elem
  obtain ⟨hg, hcap, hcells, hspare⟩ : g < w.heap.size ∧ cap ≤ maxLen ∧ (∀ j u, (Elem.ents.all l)[j]? = some u → w.cell? ⟨g, off + j, none⟩ = some u) ∧ ∀ j, j < cap * 4 → (w.cell? ⟨g, off + j, none⟩).isSome = true ∧ w.frozen? ⟨g, off + j, none⟩ = false := by
    rcases hv with ⟨e, _⟩ | ⟨g', off', cap', e, h1, h2, h3, h4, h5⟩
    · cases e
    · injection e with e1 _ e3
      injection e1 with e1
      injection e1 with eb eo _
      subst eb eo e3
      exact ⟨h1, h3, h4, h5⟩
  obtain ⟨tB, kB, hsb, hkB⟩ := shape_of (w := w) (b := g) (o := off + 0) (hspare 0 (by omega)).1
  have hsa : w.shape? vb = some (54, 4) := by unfold World.shape?; rw [show w.heap[vb]? = _ from hb]; rfl
  have hfa : ∀ i, w.frozen? ⟨vb, i, none⟩ = false := fun i => hb.frozen i
  obtain ⟨n, hN⟩ : ∃ n, l.length = n := ⟨_, rfl⟩
  have hdl : (l.drop i).length = n - i := by rw [List.length_drop, hN]
  have hal : (Elem.ents.all (l.drop i)).length = (n - i) * 4 := by rw [Elem.length_all, hdl]; rfl
  have hsp : ∀ j, j < (n + 1) * 4 → (w.cell? ⟨g, off + j, none⟩).isSome = true := fun j hj => (hspare j (by have := Nat.mul_le_mul_right 4 hroom; rw [hN] at this; omega)).1
  have hfz : ∀ j, j < (n + 1) * 4 → w.frozen? ⟨g, off + j, none⟩ = false := fun j hj => (hspare j (by have := Nat.mul_le_mul_right 4 hroom; rw [hN] at this; omega)).2
  have hov : ∀ lb cb, (callFunc 48 #[.slice (some ⟨vb, 0, none⟩) 1 1, .slice (some ⟨g, off + (i + 1) * 4, none⟩) lb cb]).run Try.prog w = .ok (.value (.bool false)) w := fun lb cb => by
    rw [run_callFunc_extern Try.func48 (by kernel_rfl) (by kernel_rfl) (by kernel_rfl) (e := Extern.SlicesOverlaps.overlaps #[52, 52] #[4]) (by kernel_rfl),
      Lib.run_overlaps_apart w 52 4 54 Try.underlying52 4 sizeOfE ⟨vb, 0, none⟩ ⟨g, off + (i + 1) * 4, none⟩ 1 1 lb cb hvb 54 tB 4 kB hsa hsb hkB (hfa _) (hfa _)]
    rfl
  have hcp1 : ∀ ty dc sc, (Builtin.copy_ #[52, 52] ty #[.slice (some ⟨g, off + (i + 1) * 4, none⟩) (n - i) dc, .slice (some ⟨g, off + i * 4, none⟩) (n + 1 - i) sc]).run Try.prog w.drew = .ok (goInt ((n - i : Nat) : Int)) (w.drew.setCells g (off + (i + 1) * 4) (Elem.ents.all (l.drop i))) := fun ty dc sc =>
    run_copy_of w.drew _ _ ty 54 g (off + (i + 1) * 4) (n - i) dc ⟨g, off + i * 4, none⟩ (n + 1 - i) sc (n - i) 4 (Elem.ents.all (l.drop i)) Try.underlying52 sizeE (by simp only [Nat.min_def]; split <;> omega) hal
      (fun j v hj => by rw [Addr.add_lit, Nat.add_assoc]; exact hcells (i * 4 + j) v (by rw [Elem.all_drop, List.getElem?_drop] at hj; exact hj))
      (fun j hj => by rw [Nat.add_assoc]; exact hsp _ (by omega)) (fun j hj => by rw [Nat.add_assoc]; exact hfz _ (by omega)) (Elem.all_oneCell _ _)
  obtain ⟨W1, hW1⟩ : ∃ W1, W1 = w.drew.setCells g (off + (i + 1) * 4) (Elem.ents.all (l.drop i)) := ⟨_, rfl⟩
  have hsp1 : ∀ k, k < (n + 1) * 4 → (W1.cell? ⟨g, off + k, none⟩).isSome = true := fun k hk => by
    rw [hW1]
    exact set_some g _ _ _ (fun j hj => by rw [Nat.add_assoc]; exact hsp _ (by omega)) _ (hsp k hk)
  have hcp2 : ∀ (W : World), (∀ x, W.cell? x = W1.cell? x) → (∀ x, W.frozen? x = W1.frozen? x) → ∀ ty dc, (Builtin.copy_ #[52, 52] ty #[.slice (some ⟨g, off + i * 4, none⟩) (n + 1 - i) dc, .slice (some ⟨vb, 0, none⟩) 1 1]).run Try.prog W = .ok (goInt ((1 : Nat) : Int)) (W.setCells g (off + i * 4) (Elem.ents.put e)) := fun W hWc hWf ty dc =>
    run_copy_of W _ _ ty 54 g (off + i * 4) (n + 1 - i) dc ⟨vb, 0, none⟩ 1 1 1 4 (Elem.ents.put e) Try.underlying52 sizeE (by simp only [Nat.min_def]; split <;> omega) rfl
      (fun j v hj => by
        rw [Addr.add_lit, hWc, hW1, World.cell?_setCells_out g _ _ _ _ (fun h _ => absurd h hvb)]
        exact oneAt w hb j v hj)
      (fun j hj => by have hj4 : j < 4 := hj; rw [hWc, Nat.add_assoc]; exact hsp1 _ (by omega)) (fun j hj => by have hj4 : j < 4 := hj; rw [hWf, hW1, World.frozen?_setCells, Nat.add_assoc]; exact hfz _ (by omega)) (Elem.ents.one e)
  have FIN : Hid (∀ W2, W2 = W1.setCells g (off + i * 4) (Elem.ents.put e) → Vec Elem.ents W2 (.slice (some ⟨g, off, none⟩) (n + 1) cap) (l.take i ++ e :: l.drop i) ∧ Upd (fun k => k = g) w W2) := Lib.hid fun W2 hW2 => by
    have u1 : Upd (fun k => k = g) w W1 := by rw [hW1]; exact (Upd.refl _ w).drew.trans (upd_setCells g _ _ _)
    have u2 : Upd (fun k => k = g) w W2 := by rw [hW2]; exact u1.trans (upd_setCells g _ _ _)
    have hlen : (l.take i ++ e :: l.drop i).length = n + 1 := by simp [hN]; omega
    have hin1 : ∀ j, j < (Elem.ents.all (l.drop i)).length → (w.drew.cell? ⟨g, off + (i + 1) * 4 + j, none⟩).isSome = true := fun j hj => by rw [Nat.add_assoc]; exact hsp _ (by omega)
    have hin2 : ∀ j, j < (Elem.ents.put e).length → (W1.cell? ⟨g, off + i * 4 + j, none⟩).isSome = true := fun j hj => by have hj4 : j < 4 := hj; rw [Nat.add_assoc]; exact hsp1 _ (by omega)
    refine ⟨.inr ⟨g, off, cap, by rw [hlen], Nat.lt_of_lt_of_le hg u2.size, by rw [hlen, ← hN]; exact hroom, hcap, ?_, fun j hj => ⟨?_, ?_⟩⟩, u2⟩
    · refine ins_cells (by omega) (fun j hj => ?_) (fun j u hj => ?_) (fun j u hj => ?_)
      · rw [hW2, World.cell?_setCells_out g _ _ _ _ (fun _ _ => .inl (by simp only; omega)), hW1, World.cell?_setCells_out g _ _ _ _ (fun _ _ => .inl (by simp only; omega))]
        obtain ⟨u, hu⟩ : ∃ u, (Elem.ents.all l)[j]? = some u := ⟨_, List.getElem?_eq_getElem (by rw [Elem.length_all, hN]; show j < n * 4; omega)⟩
        rw [hu]; exact hcells j u hu
      · obtain ⟨hjl, hju⟩ := List.getElem?_eq_some_iff.1 hj
        have := World.cell?_setCells_in g (Elem.ents.put e) (off + i * 4) W1 hin2 j hjl
        rw [hju] at this
        rw [hW2]; exact this
      · obtain ⟨hjl, hju⟩ := List.getElem?_eq_some_iff.1 hj
        have := World.cell?_setCells_in g (Elem.ents.all (l.drop i)) (off + (i + 1) * 4) w.drew hin1 j hjl
        rw [hju] at this
        rw [hW2, World.cell?_setCells_out g _ _ _ _ (fun _ _ => .inr (by show off + i * 4 + 4 ≤ off + (i + 1) * 4 + j; omega)), hW1]
        exact this
    · rw [hW2]
      refine World.isSome_setCells g _ _ _ _ ?_
      rw [hW1]
      exact World.isSome_setCells g _ _ _ _ (hspare j hj).1
    · rw [hW2, World.frozen?_setCells, hW1, World.frozen?_setCells]
      exact (hspare j hj).2
  rw [hN] at hi hroom hl ⊢
  have hz1 : ¬ ((i : Int) = (n : Int)) := by omega
  have hb4 : ¬ (cap = i) := by omega
  have hb5 : ¬ (cap = i + 1) := by omega
  have hb6 : ¬ (cap = 1 + i) := by omega
  have hc63 : cap ≤ 9223372036854775807 := by simp only [maxLen] at hcap; omega
  have hw1 : IntKind.i64.wrap ((i : Int) + 1) = (i : Int) + 1 := IntWalk.i64_in _ ⟨by omega, by omega⟩
  have hw2 : IntKind.i64.wrap ((n : Int) + 1) = (n : Int) + 1 := IntWalk.i64_in _ ⟨by omega, by omega⟩
  have hb1 : (0 : Int) ≤ (i : Int) + 1 := by omega
  have hin : i ≤ n := by omega
  have htn : ((i : Int) + 1).toNat = i + 1 := by omega
  have htn2 : ((n : Int) + 1).toNat = n + 1 := by omega
  have hb3 : (i : Int) ≤ (n : Int) + 1 := by omega
  rw [← hW1] at hcp1
  have CP1 := Lib.hid hcp1
  have CP2 := Lib.hid hcp2
  clear hcp1 hcp2 hv hcells hspare hsa hsb hfa hal hsp hfz hsp1 hb hN hdl hW1
  go_enter Try.func29, Try.ntmps29
  go_wp2_with (simp only [hov])
  clear hov
  go_region_law (refine step_copy_of rfl _ _ 52 52 rfl (.slice (some ⟨g, off + (i + 1) * 4, none⟩) (n - i) (cap - (i + 1))) (.slice (some ⟨g, off + i * 4, none⟩) (n + 1 - i) (cap - i)) ?_ ?_ (CP1.out _ _ _) ?_; go_simp; go_simp)
  have cp2 := CP2.out W1 (fun _ => rfl) (fun _ => rfl)
  go_wp2
  go_ret
  obtain ⟨f1, f2⟩ := FIN.out _ rfl
  exact ⟨_, rfl, f1, f2, fun k hk => (in_blk hk).symm⟩

theorem size_zeroE (k : Nat) : (Builtin.zeroCells (Value.agg #[.int .u64 0, .int .u64 0, .int .u64 0, .bool false]).cells k).size = k * 4 := by
  rw [size_zeroCells]; rfl
set_option maxHeartbeats 4000000 in
set_option maxRecDepth 100000 in
/-- In the midst, where there is no room: a new row. -/
theorem ins_grow (w : World) {g off n cap i vb : Nat} {l : List En} {e : En} (hv : Vec Elem.ents w (.slice (some ⟨g, off, none⟩) n cap) l) (hi : i < n) (hl : l.length ≤ 1048576) (hroom : cap < n + 1) (hb : Blk w vb 54 (Elem.ents.put e).toArray) :
    Calls Try.prog 29 #[.slice (some ⟨g, off, none⟩) n cap, .int .i64 (i : Int), .slice (some ⟨vb, 0, none⟩) 1 1] w fun r w' =>
      ∃ v', r = .returned v' ∧ Vec Elem.ents w' v' (l.take i ++ e :: l.drop i) ∧ Upd (fun k => w.heap.size ≤ k) w w' ∧ ∀ k, In v' k → w.heap.size ≤ k := by
  obtain rfl := hv.elem
  obtain ⟨hg, hnc, hcap, hcells⟩ : g < w.heap.size ∧ l.length ≤ cap ∧ cap ≤ maxLen ∧ ∀ j u, (Elem.ents.all l)[j]? = some u → w.cell? ⟨g, off + j, none⟩ = some u := by
    rcases hv with ⟨e, _⟩ | ⟨g', off', cap', e, h1, h2, h3, h4, h5⟩
    · cases e
    · injection e with e1 _ e3
      injection e1 with e1
      injection e1 with eb eo _
      subst eb eo e3
      exact ⟨h1, h2, h3, h4⟩
  obtain rfl : cap = l.length := by omega
  obtain ⟨n, hN⟩ : ∃ n, l.length = n := ⟨_, rfl⟩
  obtain ⟨i0, hinf, hz0, hz1, hz2⟩ := info_parts infoE
  rw [hN] at hi hroom hl hcap hnc ⊢
  have hdl : (l.drop i).length = n - i := by rw [List.length_drop, hN]
  have hal : (Elem.ents.all (l.drop i)).length = (n - i) * 4 := by rw [Elem.length_all, hdl]; rfl
  have htl : (Elem.ents.all (l.take i)).length = i * 4 := by rw [Elem.length_all, List.length_take, hN, Nat.min_eq_left (by omega)]; rfl
  obtain ⟨N, hNb⟩ : ∃ N, w.heap.size = N := ⟨_, rfl⟩
  have hvw : vb < N := by rw [← hNb]; exact hb.lt
  rw [hNb] at hg
  have hik : i + (n + 1 - i) = n + 1 := by omega
  have hold : (Builtin.firstCells i0.size i (.slice (some ⟨g, off, none⟩) i n)).run Try.prog w.drew = .ok (Elem.ents.all (l.take i)).toArray w.drew := by
    rw [hz1]
    exact run_firstCells_some w.drew 4 i ⟨g, off, none⟩ i n (Elem.ents.all (l.take i)) htl (fun j v hj => by
      rw [Addr.add_lit]
      rw [Elem.all_take, List.getElem?_take] at hj
      split at hj
      · exact hcells j v hj
      · cases hj)
  obtain ⟨G, hG⟩ : ∃ G, grownCap w (n + 1) n 54 = G := ⟨_, rfl⟩
  have hGn : n + 1 ≤ G := by rw [← hG]; exact grownCap_ge w _ _ _
  have hGm : G ≤ maxLen := by
    rw [← hG]; exact grownCap_le_maxLen w (n + 1) n 54 (by unfold maxLen; omega)
  obtain ⟨ROW, hROW⟩ : ∃ ROW : Array Value, ROW = (Elem.ents.all (l.take i)).toArray ++ Builtin.zeroCells (Value.agg #[.int .u64 0, .int .u64 0, .int .u64 0, .bool false]).cells (n + 1 - i) ++ Builtin.zeroCells (Value.agg #[.int .u64 0, .int .u64 0, .int .u64 0, .bool false]).cells (G - (n + 1)) := ⟨_, rfl⟩
  have hRs : ROW.size = G * 4 := by
    rw [hROW, Array.size_append, Array.size_append, size_zeroE, size_zeroE, List.size_toArray, htl]
    omega
  have hR0 : ∀ j, j < i * 4 → ROW[j]? = (Elem.ents.all l)[j]? := fun j hj => by
    rw [hROW, Array.getElem?_append_left (by rw [Array.size_append, List.size_toArray, htl]; omega), Array.getElem?_append_left (by rw [List.size_toArray, htl]; exact hj), List.getElem?_toArray, Elem.all_take, List.getElem?_take_of_lt (by exact hj)]
  have hrz : ∀ ty, (Builtin.append_ #[52, 3] ty #[.slice (some ⟨g, off, none⟩) i n, .int .i64 ((n : Int) + 1 - (i : Int))]).run Try.prog w =
      .ok (.slice (some ⟨N, 0, none⟩) (n + 1) G) (w.drew.alloc (.cells ROW 54)) := fun ty => by
    have h := Lib.run_append_grow_zeros (P := Try.prog) w 52 3 ty 54 i0 _ .i64 .i64 Try.underlying52 Try.underlying3 hinf hz0 (some ⟨g, off, none⟩) i n (Elem.ents.all (l.take i)) hold (n + 1 - i) (by omega) (by rw [hz1]; decide) (by omega) (by omega) (by rw [hz2]; omega) (by rw [hz2, hik]; exact growslice_fits (by omega) (by omega))
    rw [hik, hG, hNb, ← hROW] at h
    rw [show (n : Int) + 1 - (i : Int) = ((n + 1 - i : Nat) : Int) by omega]
    exact h
  obtain ⟨W1, hW1⟩ : ∃ W1, w.drew.alloc (.cells ROW 54) = W1 := ⟨_, rfl⟩
  rw [hW1] at hrz
  have hB1 : Blk W1 N 54 ROW := by rw [← hW1, ← hNb]; exact Blk.new w.drew _ _
  have hs1 : N + 1 = W1.heap.size := by rw [← hW1, ← hNb]; simp
  have hbl : Below N w W1 := by rw [← hW1, ← hNb]; exact (Below.refl _ w).drew.alloc (Nat.le_refl _) _
  have hN1 : ∀ j, j < G * 4 → (W1.cell? ⟨N, j, none⟩).isSome = true := fun j hj => by
    rw [hB1.cell, Array.getElem?_eq_getElem (by omega)]; rfl
  have hNf : ∀ j, W1.frozen? ⟨N, j, none⟩ = false := fun j => hB1.frozen j
  have hGn4 : (n + 1) * 4 ≤ G * 4 := Nat.mul_le_mul_right 4 hGn
  have hOb : ∀ j u, (Elem.ents.all l)[j]? = some u → W1.cell? ⟨g, off + j, none⟩ = some u := fun j u h => cell_later (hcells j u h) (Nat.le_of_eq hNb) hbl
  have hOv : ∀ j u, (Elem.ents.put e)[j]? = some u → W1.cell? ⟨vb, 0 + j, none⟩ = some u := fun j u h => cell_later (oneAt w hb j u h) (Nat.le_of_eq hNb) hbl
  have hcpA : ∀ ty dc, (Builtin.copy_ #[52, 52] ty #[.slice (some ⟨N, i * 4, none⟩) (n + 1 - i) dc, .slice (some ⟨vb, 0, none⟩) 1 1]).run Try.prog W1 = .ok (goInt ((1 : Nat) : Int)) (W1.setCells N (i * 4) (Elem.ents.put e)) := fun ty dc =>
    run_copy_of W1 _ _ ty 54 N (i * 4) (n + 1 - i) dc ⟨vb, 0, none⟩ 1 1 1 4 (Elem.ents.put e) Try.underlying52 sizeE (by simp only [Nat.min_def]; split <;> omega) rfl
      (fun j v hj => by rw [Addr.add_lit]; exact hOv j v hj)
      (fun j hj => by have hj4 : j < 4 := hj; exact hN1 _ (by omega)) (fun j hj => hNf _) (Elem.ents.one e)
  obtain ⟨W2, hW2⟩ : ∃ W2, W1.setCells N (i * 4) (Elem.ents.put e) = W2 := ⟨_, rfl⟩
  rw [hW2] at hcpA
  have u2 : Upd (fun k => k = N) W1 W2 := by rw [← hW2]; exact upd_setCells N _ _ _
  have hN2 : ∀ j, j < G * 4 → (W2.cell? ⟨N, j, none⟩).isSome = true := fun j hj => by
    rw [← hW2]; exact World.isSome_setCells N _ _ _ _ (hN1 j hj)
  have hgN : g ≠ N := by omega
  have hcpB : ∀ ty dc sc, (Builtin.copy_ #[52, 52] ty #[.slice (some ⟨N, (i + 1) * 4, none⟩) (n - i) dc, .slice (some ⟨g, off + i * 4, none⟩) (n - i) sc]).run Try.prog W2.drew = .ok (goInt ((n - i : Nat) : Int)) (W2.drew.setCells N ((i + 1) * 4) (Elem.ents.all (l.drop i))) := fun ty dc sc =>
    run_copy_of W2.drew _ _ ty 54 N ((i + 1) * 4) (n - i) dc ⟨g, off + i * 4, none⟩ (n - i) sc (n - i) 4 (Elem.ents.all (l.drop i)) Try.underlying52 sizeE (Nat.min_self _) hal
      (fun j v hj => by
        rw [Addr.add_lit, Nat.add_assoc]
        exact cell_upd (S := fun k => k = N) (hOb (i * 4 + j) v (by rw [Elem.all_drop, List.getElem?_drop] at hj; exact hj)) u2.drew hgN)
      (fun j hj => hN2 _ (by omega)) (fun j hj => by show W2.frozen? _ = false; rw [← hW2, World.frozen?_setCells]; exact hNf _) (Elem.all_oneCell _ _)
  have FIN : Hid (∀ W3, W3 = W2.drew.setCells N ((i + 1) * 4) (Elem.ents.all (l.drop i)) → Vec Elem.ents W3 (.slice (some ⟨N, 0, none⟩) (n + 1) G) (l.take i ++ e :: l.drop i) ∧ Upd (fun k => N ≤ k) w W3) := Lib.hid fun W3 hW3 => by
    have u3 : Upd (fun k => k = N) W2 W3 := by rw [hW3]; exact (Upd.refl _ W2).drew.trans (upd_setCells N _ _ _)
    have hlen : (l.take i ++ e :: l.drop i).length = n + 1 := by simp [hN]; omega
    have hin1 : ∀ j, j < (Elem.ents.all (l.drop i)).length → (W2.drew.cell? ⟨N, (i + 1) * 4 + j, none⟩).isSome = true := fun j hj => hN2 _ (by omega)
    have hin2 : ∀ j, j < (Elem.ents.put e).length → (W1.cell? ⟨N, i * 4 + j, none⟩).isSome = true := fun j hj => by have hj4 : j < 4 := hj; exact hN1 _ (by omega)
    refine ⟨.inr ⟨N, 0, G, by rw [hlen], ?_, by rw [hlen]; exact hGn, hGm, ?_, fun j hj => ⟨?_, ?_⟩⟩, ?_⟩
    · have := u2.size; have := u3.size; omega
    · refine ins_cells (by omega) (fun j hj => ?_) (fun j u hj => ?_) (fun j u hj => ?_)
      · rw [Nat.zero_add, hW3, World.cell?_setCells_out N _ _ _ _ (fun _ _ => .inl (by simp only; omega))]
        show W2.cell? _ = _
        rw [← hW2, World.cell?_setCells_out N _ _ _ _ (fun _ _ => .inl (by simp only; omega)), hB1.cell, hR0 j hj]
      · obtain ⟨hjl, hju⟩ := List.getElem?_eq_some_iff.1 hj
        have hj4 : j < 4 := hjl
        have := World.cell?_setCells_in N (Elem.ents.put e) (i * 4) W1 hin2 j hjl
        rw [hju] at this
        rw [Nat.zero_add, hW3, World.cell?_setCells_out N _ _ _ _ (fun _ _ => .inl (by simp only; omega))]
        show W2.cell? _ = _
        rw [← hW2]; exact this
      · obtain ⟨hjl, hju⟩ := List.getElem?_eq_some_iff.1 hj
        have := World.cell?_setCells_in N (Elem.ents.all (l.drop i)) ((i + 1) * 4) W2.drew hin1 j hjl
        rw [hju] at this
        rw [Nat.zero_add, hW3]
        exact this
    · rw [Nat.zero_add, hW3]
      exact World.isSome_setCells N _ _ _ _ (hN2 j hj)
    · rw [hW3, World.frozen?_setCells]
      show W2.frozen? _ = false
      rw [← hW2, World.frozen?_setCells]; exact hNf _
    · exact (((Upd.ofBelow hbl).step u2 (fun k hk => .inl (by omega))).step u3 (fun k hk => .inl (by omega)))
  have hz1' : ¬ ((i : Int) = (n : Int)) := by omega
  have hb4 : ¬ (n = i) := by omega
  have hb5 : ¬ (G = i + 1) := by omega
  have hb6 : ¬ (G = i) := by omega
  have hc63 : G ≤ 9223372036854775807 := by simp only [maxLen] at hGm; omega
  have hw1 : IntKind.i64.wrap ((i : Int) + 1) = (i : Int) + 1 := IntWalk.i64_in _ ⟨by omega, by omega⟩
  have hw2 : IntKind.i64.wrap ((n : Int) + 1) = (n : Int) + 1 := IntWalk.i64_in _ ⟨by omega, by omega⟩
  have hw3 : IntKind.i64.wrap ((n : Int) + 1 - (i : Int)) = (n : Int) + 1 - (i : Int) := IntWalk.i64_in _ ⟨by omega, by omega⟩
  have hb1 : (0 : Int) ≤ (i : Int) + 1 := by omega
  have hin : i ≤ n := by omega
  have htn : ((i : Int) + 1).toNat = i + 1 := by omega
  have hb3 : (i : Int) ≤ (n : Int) + 1 := by omega
  have hcc : (n : Int) < (n : Int) + 1 := by omega
  have CPA := Lib.hid hcpA
  have CPB := Lib.hid hcpB
  have RZ := Lib.hid hrz
  have HNB := Lib.hid hNb
  clear hcpA hcpB hrz hv hcells hal htl hold hR0 hRs hROW hB1 hN1 hNf hOb hOv hN2 u2 hW2 hW1 hbl hs1 hb hN hdl hik hG hz0 hz1 hz2 hinf hGm hcap hl hNb
  rw [HNB.out]
  go_enter Try.func29, Try.ntmps29
  have cpA := CPA.out
  go_wp2_with (at_builtin; refine Lib.wpList_append_run _ rfl _ _ _ _ rfl _ _ rfl rfl _ _ (RZ.out _) ?_)
  clear cpA
  go_region_law (refine step_copy_of rfl _ _ 52 52 rfl (.slice (some ⟨N, (i + 1) * 4, none⟩) (n - i) (G - (i + 1))) (.slice (some ⟨g, off + i * 4, none⟩) (n - i) (n - i)) ?_ ?_ (CPB.out _ _ _) ?_; go_simp; go_simp)
  go_wp2
  go_ret
  obtain ⟨f1, f2⟩ := FIN.out _ rfl
  exact ⟨_, rfl, f1, f2, fun k hk => Nat.le_of_eq (in_blk hk)⟩
/-- slices.Insert of one. -/
theorem insert_any (w : World) {v : Value} {l : List En} {e : En} {i vb : Nat} (hv : Vec Elem.ents w v l) (hi : i ≤ l.length) (hl : l.length ≤ 1048576) (hb : Blk w vb 54 (Elem.ents.put e).toArray) (hvb : ¬ In v vb) :
    Calls Try.prog 29 #[v, .int .i64 (i : Int), .slice (some ⟨vb, 0, none⟩) 1 1] w fun r w' =>
      ∃ v', r = .returned v' ∧ Vec Elem.ents w' v' (l.take i ++ e :: l.drop i) ∧ Upd (In v) w w' ∧ ∀ k, In v' k → In v k ∨ w.heap.size ≤ k := by
  by_cases hend : i = l.length
  · have := ins_end w hv hl hb (e := e)
    rw [← hend] at this
    rw [take_full hend]
    exact this
  · rcases hv with ⟨rfl, rfl⟩ | ⟨g, off, cap, rfl, h1, h2, h3, h4, h5⟩
    · simp at hi; simp [hi] at hend
    · have hv : Vec Elem.ents w (.slice (some ⟨g, off, none⟩) l.length cap) l := .inr ⟨g, off, cap, rfl, h1, h2, h3, h4, h5⟩
      by_cases hroom : l.length + 1 ≤ cap
      · refine (ins_mid w hv (by omega) hl hroom hb (fun e => hvb (by rw [e]; rfl))).mono ?_
        rintro r w' ⟨v', rfl, k1, k2, k3⟩
        exact ⟨v', rfl, k1, k2.mono fun k hk => by subst hk; rfl, fun k hk => .inl (by rw [k3 k hk]; rfl)⟩
      · refine (ins_grow w hv (by omega) hl (by omega) hb).mono ?_
        rintro r w' ⟨v', rfl, k1, k2, k3⟩
        exact ⟨v', rfl, k1, ⟨k2.os, k2.tape, k2.output, k2.size, fun k hk hn => k2.block k hk (by omega)⟩, fun k hk => .inr (k3 k hk)⟩
end Go.Proofs.Ytclmdjkihijciaa
