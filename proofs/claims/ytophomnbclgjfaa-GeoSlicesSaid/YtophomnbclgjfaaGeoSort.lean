/- The library's slices.SortFunc at runs, as the program's Meet calls it: contract. -/
import Derived.Test.YtophomnbclgjfaaGeoC
import Derived.Test.YtophomnbclgjfaaSortLay
import Derived.Test.YtophomnbclgjfaaGeoMeetsWalk
namespace Go.Proofs.Ytophomnbclgjfaa
open Go.RowKit GeoMath Go.Sort Go.Shelf
set_option linter.unusedVariables false

set_option maxHeartbeats 1000000 in
/-- The closure: its two arguments are boxed. -/
theorem code_cmp (x y : Rn) (W : World) : Calls Try.prog 31 #[.agg (Elem.runs.put x).toArray, .agg (Elem.runs.put y).toArray] W fun e w' => e = .returned (.int .i64 (cmpR x y)) ∧ ∃ q os', w' = grow (W.drewN q) os' := by
  have HC := Lib.hid (fun w => code_compare w x.1 y.1)
  obtain ⟨c, hc⟩ : ∃ c : Int, cmpR x y = c := ⟨_, rfl⟩
  rw [hc]
  unfold cmpR at hc
  rw [hc] at HC
  clear hc
  obtain ⟨f1, s1, n1⟩ := x
  obtain ⟨f2, s2, n2⟩ := y
  simp only [] at HC
  show Calls Try.prog 31 #[.agg #[.int .u64 (f1 : Int), .int .u64 (s1 : Int), .int .i64 n1], .agg #[.int .u64 (f2 : Int), .int .u64 (s2 : Int), .int .i64 n2]] W _
  go_enter Try.func31, Try.ntmps31
  go_wp2_with (go_at_call 32; refine (HC.out _).mono ?_; rintro e w' ⟨rfl, rfl⟩)
  go_ret
  exact ⟨rfl, 0, _, by rw [alloc_eq_grow, alloc_eq_grow, grow_grow]; rfl⟩
theorem ltOf_cmp (x y : Rn) : ltOf cmpR x y = decide (x.1 < y.1) := by
  unfold ltOf cmpR
  by_cases h1 : x.1 < y.1
  · simp [h1]
  · by_cases h2 : y.1 < x.1 <;> simp [h1, h2]
theorem swo_cmp : SWO (ltOf cmpR) where
  irrefl x := by rw [ltOf_cmp]; simp
  trans x y z h1 h2 := by rw [ltOf_cmp] at *; simp at *; omega
  ntrans x y z h1 h2 := by rw [ltOf_cmp] at *; simp at *; omega
theorem upd_sorted {α : Type} [Inhabited α] (enc : α → List Value) (k : Nat) (w : World) (g off m : Nat) (d : Array α) (os : Array Obj) : Upd (fun b => b = g) w (sortWorldK enc k w g off m d os) := by
  refine ⟨rfl, rfl, rfl, size_sortWorldK_c enc k w g off m d os, fun b hb hne => ?_⟩
  unfold sortWorldK
  show ((putRowK enc k (Sort.ahead w m) g off d).heap ++ os)[b]? = _
  rw [Array.getElem?_append_left (by rw [size_putRowK]; exact hb)]
  show ((Sort.ahead w m).heap.modify g _)[b]? = _
  rw [Array.getElem?_modify, if_neg (fun e => hne e.symm)]
  rfl
theorem vec_holds {w : World} {g off n cap : Nat} {l : List Rn} (hn : n = l.length) (hc : ∀ j u, (Elem.runs.all l)[j]? = some u → w.cell? ⟨g, off + j, none⟩ = some u) (hle : n ≤ cap) (hsp : ∀ j, j < cap * 3 → w.frozen? ⟨g, off + j, none⟩ = false) : HoldsK Elem.runs.put 3 w g off l.toArray := by
  subst hn
  intro t ht
  rw [size_flatK] at ht
  have ht' : t < l.length * 3 := by simpa using ht
  have hi : t / 3 < l.length := by omega
  rw [get_flatK _ _ _ _ ht]
  refine ⟨?_, hsp t (by omega)⟩
  have h1 := Elem.runs.all_at (l := l) (i := t / 3) (x := l[t / 3]) (List.getElem?_eq_getElem hi) (t % 3) (show t % 3 < 3 by omega)
  rw [show t / 3 * Elem.runs.size + t % 3 = t by simp only [Elem.runs]; omega] at h1
  have hlen : t % 3 < (Elem.runs.put l[t / 3]).length := by rw [Elem.len]; show t % 3 < 3; omega
  rw [List.getElem?_eq_getElem hlen] at h1
  rw [hc t _ h1]
  have e1 : l.toArray[t / 3]! = l[t / 3] := by simp [hi]
  rw [e1, getElem!_pos (Elem.runs.put l[t / 3]) (t % 3) hlen]
  rfl
theorem holds_seq {w : World} {g off n cap : Nat} {l : List Rn} (hn : n = l.length) (h : HoldsK Elem.runs.put 3 w g off l.toArray) : Seq Elem.runs w (.slice (some ⟨g, off, none⟩) n cap) l := by
  refine Seq.at hn fun j u hj => ?_
  have hjl : j < l.length * 3 := by
    have := (List.getElem?_eq_some_iff.1 hj).1
    rw [Elem.length_all] at this
    exact this
  have hi : j / 3 < l.length := by omega
  have h1 := Elem.runs.all_at (l := l) (i := j / 3) (x := l[j / 3]) (List.getElem?_eq_getElem hi) (j % 3) (show j % 3 < 3 by omega)
  rw [show j / 3 * Elem.runs.size + j % 3 = j by simp only [Elem.runs]; omega] at h1
  rw [h1] at hj
  have h2 := (h.cell (i := j / 3) (c := j % 3) (by simpa using hi) (by omega)).1
  rw [show off + j / 3 * 3 + j % 3 = off + j by omega] at h2
  rw [h2]
  have e1 : l.toArray[j / 3]! = l[j / 3] := by simp [hi]
  obtain ⟨hlen, e2⟩ := List.getElem?_eq_some_iff.1 hj
  rw [e1, getElem!_pos (Elem.runs.put l[j / 3]) (j % 3) hlen, e2]
set_option maxHeartbeats 1000000 in
theorem code_sort (w : World) (a : Option Addr) (n cap : Nat) (l : List Rn) (hv : Vec Elem.runs w (.slice a n cap) l) (hn : n ≤ 300) :
    Calls Try.prog 30 #[.slice a n cap, .func (.func 31) #[] #[]] w fun e w' => e = .returned (.tuple #[]) ∧ ∃ l' : List Rn, l'.Perm l ∧ Rises l' ∧ Seq Elem.runs w' (.slice a n cap) l' ∧ Upd (In (.slice a n cap)) w w' := by
  have hnl := hv.elem
  rcases hv with ⟨e, rfl⟩ | ⟨g, off, c, e, hg, hle, hm, hc, hsp⟩
  · injection e with e1 e2 e3
    subst e1 e2 e3
    refine (AnyF.slices_SortFunc_none { sortRun with } none 0 _ w).mono fun e w' h => ?_
    obtain ⟨h1, h2⟩ := h
    rw [h2]
    exact ⟨h1, [], List.Perm.refl _, (fun i j _ hj => absurd hj (Nat.not_lt_zero _)), Seq.nil w, Upd.refl _ w⟩
  · injection e with e1 e2 e3
    subst e1 e3
    have hH : HoldsK Elem.runs.put 3 w g off l.toArray := vec_holds rfl hc hle (fun j hj => (hsp j hj).2)
    have eg : ∀ args w, (callFunc 31 args).run Try.prog w = .ok (.enter 31 args) w := enters_of Try.func31 (by kernel_rfl) rfl
    have hcon := AnyQ.slices_SortFunc sortRun 3 Try.isAgg38 Try.sizeOf38 Elem.runs.put (fun _ => rfl) Elem.runs.one cmpR swo_cmp 31 #[] g off cap l.toArray w eg (fun _ _ _ _ x y => code_cmp x y _) hH hg (by rw [List.size_toArray]; omega)
    change Calls Try.prog 30 _ _ _ at hcon
    rw [List.size_toArray, ← e2] at hcon
    refine hcon.mono fun e w' h => ?_
    obtain ⟨h1, d', m, os, hp, hs, rfl⟩ := h
    obtain ⟨p1, p2, p3⟩ := hp
    have hsz : d'.size = l.length := by rw [p1, List.size_toArray]
    have hh := holdsK_sortWorldK_c Elem.runs.put 3 w g off l.toArray d' m os hH hg p1
    refine ⟨h1, d'.toList, ?_, ?_, holds_seq (by rw [Array.length_toList, hsz, e2]) (by rw [Array.toArray_toList]; exact hh), (upd_sorted Elem.runs.put 3 w g off m d' os).mono (fun b hb => by subst hb; rfl)⟩
    · have e4 : d'.extract 0 n = d' := by rw [e2, ← hsz, Array.extract_size]
      have e5 : l.toArray.extract 0 n = l.toArray := by rw [e2, ← List.size_toArray, Array.extract_size]
      rw [e4, e5] at p3
      exact p3
    · intro i j hij hj
      rw [Array.length_toList, hsz] at hj
      have := hs i j (Nat.zero_le _) hij (by rw [e2]; exact hj)
      rw [ltOf_cmp, decide_eq_false_iff_not] at this
      have e6 : d'.toList.getD i rn0 = d'[i]! := by simp [List.getD_eq_getElem?_getD, show i < d'.size by omega]
      have e7 : d'.toList.getD j rn0 = d'[j]! := by simp [List.getD_eq_getElem?_getD, show j < d'.size by omega]
      rw [e6, e7]
      omega
end Go.Proofs.Ytophomnbclgjfaa
