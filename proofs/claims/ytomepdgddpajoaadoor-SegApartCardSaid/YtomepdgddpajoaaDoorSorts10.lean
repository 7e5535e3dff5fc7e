/- Sorts10: texts of layers below, joined (GeoC GeoInfo SortLay GeoSort GeoD). -/
import Derived.Test.YtomepdgddpajoaaDoorGeoB
import Derived.Test.YtomepdgddpajoaaDoorMeetMath
import Derived.Shelf.SlGeneric
import Derived.Shelf.SlSortCmp.WholeK
import Derived.Shelf.SlSortCmp.NoneTotal
import Derived.Test.YtomepdgddpajoaaDoorProg
/- The program's geo: In, how two runs compare: contracts. -/
namespace Go.Proofs.YtomepdgddpajoaaDoor
open Go.RowKit GeoMath
set_option linter.unusedVariables false

theorem ret_b {a b : Bool} (h : a = b) : Ending.returned (.bool a) = .returned (.bool b) := by rw [h]
def Ining (w : World) (b : Nat) (t : TypeId) (f s m k : Nat) (l : List Nat) (i : Value) (wr : World) : Prop :=
  ∃ j : Nat, j ≤ k ∧ i = .int .i64 (j : Int) ∧ (l.take j).all (fun a => hits f s (m : Int) a) = true ∧ OneRun w b t f s (m : Int) wr
theorem all_take_succ {l : List Nat} {j x : Nat} {p : Nat → Bool} (h : l[j]? = some x) : (l.take (j + 1)).all p = ((l.take j).all p && p x) := by
  rw [List.take_add_one, List.all_append, h]; simp
theorem not_all_of {l : List Nat} {j x : Nat} {p : Nat → Bool} (h : l[j]? = some x) (hp : p x = false) : l.all p = false := by
  rw [Bool.eq_false_iff]
  intro h2
  have := List.all_eq_true.1 h2 x (List.mem_of_getElem? h)
  rw [hp] at this; cases this
theorem code_compare (w : World) (x y : Nat) : Calls Tryd.prog 68 #[.int .u64 (x : Int), .int .u64 (y : Int)] w fun e w' => e = .returned (.int .i64 (if x < y then -1 else if y < x then 1 else 0)) ∧ w' = w := by
  have z1 : ((x : Int) != (x : Int)) = false := by simp
  have z2 : ((y : Int) != (y : Int)) = false := by simp
  by_cases h1 : x < y
  · rw [if_pos h1]
    have t1 : decide ((x : Int) < (y : Int)) = true := decide_eq_true (by omega)
    have t1' : decide (x < y) = true := decide_eq_true h1
    go_enter Tryd.func68, Tryd.ntmps68
    go_wp2
    go_ret
    exact ⟨rfl, rfl⟩
  · rw [if_neg h1]
    have t1 : decide ((x : Int) < (y : Int)) = false := decide_eq_false (by omega)
    have t1' : decide (x < y) = false := decide_eq_false h1
    by_cases h2 : y < x
    · rw [if_pos h2]
      have t2 : decide ((y : Int) < (x : Int)) = true := decide_eq_true (by omega)
      have t2' : decide (y < x) = true := decide_eq_true h2
      go_enter Tryd.func68, Tryd.ntmps68
      go_wp2
      go_ret
      exact ⟨rfl, rfl⟩
    · rw [if_neg h2]
      have t2 : decide ((y : Int) < (x : Int)) = false := decide_eq_false (by omega)
      have t2' : decide (y < x) = false := decide_eq_false h2
      go_enter Tryd.func68, Tryd.ntmps68
      go_wp2
      go_ret
      exact ⟨rfl, rfl⟩
end Go.Proofs.YtomepdgddpajoaaDoor
/- geo.Run, its zero value and size. -/
namespace Go.Proofs.YtomepdgddpajoaaDoor
open Go.RowKit GeoMath
set_option linter.unusedVariables false
theorem infoRun : (Tryd.prog.info? 68).map (fun i => (i.zero, i.size, i.bytes)) = some (some (.agg #[.int .u64 0, .int .u64 0, .int .i64 0]), 3, 24) := by kernel_rfl
theorem sizeRun (w : World) : (sizeOf (Tryd.prog.elem 66)).run Tryd.prog w = .ok Elem.runs.size w := by kernel_rfl
end Go.Proofs.YtomepdgddpajoaaDoor
/- The library's slices.SortFunc at geo.Run: each body of the program's own is that of which the contract was proved. (Numbers of this seat.) -/
namespace Go.Proofs.YtomepdgddpajoaaDoor
open Go.Shelf
def sortRun_ren : Go.Shelf.Ren := ⟨fun | 6 => 66 | 15 => 87 | 14 => 86 | 28 => 106 | 29 => 107 | 20 => 98 | 21 => 99 | 22 => 100 | 23 => 101 | 24 => 102 | 25 => 103 | 26 => 104 | 27 => 105 | 46 => 112 | 47 => 113 | 48 => 114 | 49 => 115 | 50 => 116 | 57 => 117 | n => n, fun | 22 => 66 | 24 => 68 | 25 => 134 | 3 => 3 | 39 => 155 | 0 => 0 | 53 => 173 | 55 => 28 | 4 => 4 | 46 => 166 | 45 => 165 | 50 => 170 | 5 => 5 | 9 => 9 | 66 => 178 | 70 => 181 | 76 => 183 | 77 => 184 | n => n, fun | n => n⟩
theorem sortRun : Go.Proofs.SlLaysF0.n6 Tryd.prog sortRun_ren := {
  mixed := by kernel_rfl
  f6 := ⟨Tryd.f66.name, by decide, Tryd.func66.trans (congrArg some (by kernel_rfl))⟩
  f14 := ⟨Tryd.f86.name, by decide, Tryd.func86.trans (congrArg some (by kernel_rfl))⟩
  f15 := Tryd.func87.trans (congrArg some (by kernel_rfl))
  f20 := ⟨Tryd.f98.name, by decide, Tryd.func98.trans (congrArg some (by kernel_rfl))⟩
  f21 := ⟨Tryd.f99.name, by decide, Tryd.func99.trans (congrArg some (by kernel_rfl))⟩
  f22 := ⟨Tryd.f100.name, by decide, Tryd.func100.trans (congrArg some (by kernel_rfl))⟩
  f23 := ⟨Tryd.f101.name, by decide, Tryd.func101.trans (congrArg some (by kernel_rfl))⟩
  f24 := ⟨Tryd.f102.name, by decide, Tryd.func102.trans (congrArg some (by kernel_rfl))⟩
  f25 := ⟨Tryd.f103.name, by decide, Tryd.func103.trans (congrArg some (by kernel_rfl))⟩
  f26 := ⟨Tryd.f104.name, by decide, Tryd.func104.trans (congrArg some (by kernel_rfl))⟩
  f27 := ⟨Tryd.f105.name, by decide, Tryd.func105.trans (congrArg some (by kernel_rfl))⟩
  f28 := Tryd.func106.trans (congrArg some (by kernel_rfl))
  f29 := Tryd.func107.trans (congrArg some (by kernel_rfl))
  f46 := ⟨Tryd.f112.name, by decide, Tryd.func112.trans (congrArg some (by kernel_rfl))⟩
  f47 := Tryd.func113.trans (congrArg some (by kernel_rfl))
  f48 := Tryd.func114.trans (congrArg some (by kernel_rfl))
  f49 := ⟨Tryd.f115.name, by decide, Tryd.func115.trans (congrArg some (by kernel_rfl))⟩
  f50 := ⟨Tryd.f116.name, by decide, Tryd.func116.trans (congrArg some (by kernel_rfl))⟩
  f57 := ⟨Tryd.f117.name, by decide, Tryd.func117.trans (congrArg some (by kernel_rfl))⟩
  t0 := Tryd.underlying0
  a0 := Tryd.isAgg0
  z0 := Tryd.sizeOf0
  v0 := Tryd.zeroValue0
  t3 := Tryd.underlying3
  a3 := Tryd.isAgg3
  z3 := Tryd.sizeOf3
  v3 := Tryd.zeroValue3
  t4 := Tryd.underlying4
  a4 := Tryd.isAgg4
  z4 := Tryd.sizeOf4
  v4 := Tryd.zeroValue4
  t5 := Tryd.underlying5
  a5 := Tryd.isAgg5
  z5 := Tryd.sizeOf5
  v5 := Tryd.zeroValue5
  t9 := Tryd.underlying9
  a9 := Tryd.isAgg9
  z9 := Tryd.sizeOf9
  v9 := Tryd.zeroValue9
  t22 := Tryd.underlying66
  a22 := Tryd.isAgg66
  z22 := Tryd.sizeOf66
  v22 := Tryd.zeroValue66
  t25 := Tryd.underlying134
  a25 := Tryd.isAgg134
  z25 := Tryd.sizeOf134
  v25 := Tryd.zeroValue134
  t39 := Tryd.underlying155
  a39 := Tryd.isAgg155
  z39 := Tryd.sizeOf155
  v39 := Tryd.zeroValue155
  t45 := Tryd.underlying165
  a45 := Tryd.isAgg165
  z45 := Tryd.sizeOf165
  v45 := Tryd.zeroValue165
  t46 := Tryd.underlying166
  a46 := Tryd.isAgg166
  z46 := Tryd.sizeOf166
  v46 := Tryd.zeroValue166
  t50 := Tryd.underlying170
  a50 := Tryd.isAgg170
  z50 := Tryd.sizeOf170
  v50 := Tryd.zeroValue170
  t53 := Tryd.underlying173
  a53 := Tryd.isAgg173
  z53 := Tryd.sizeOf173
  v53 := Tryd.zeroValue173
  t55 := Tryd.underlying28
  a55 := Tryd.isAgg28
  z55 := Tryd.sizeOf28
  v55 := Tryd.zeroValue28
  t66 := Tryd.underlying178
  a66 := Tryd.isAgg178
  z66 := Tryd.sizeOf178
  v66 := Tryd.zeroValue178
  t70 := Tryd.underlying181
  a70 := Tryd.isAgg181
  z70 := Tryd.sizeOf181
  v70 := Tryd.zeroValue181
  t76 := Tryd.underlying183
  a76 := Tryd.isAgg183
  z76 := Tryd.sizeOf183
  v76 := Tryd.zeroValue183
  t77 := Tryd.underlying184
  a77 := Tryd.isAgg184
  z77 := Tryd.sizeOf184
  v77 := Tryd.zeroValue184 }
end Go.Proofs.YtomepdgddpajoaaDoor
/- The library's slices.SortFunc at runs, as the program's Meet calls it: contract. -/
namespace Go.Proofs.YtomepdgddpajoaaDoor
open Go.RowKit GeoMath Go.Sort Go.Shelf
set_option linter.unusedVariables false

set_option maxHeartbeats 1000000 in
/-- The closure: its two arguments are boxed. -/
theorem code_cmp (x y : Rn) (W : World) : Calls Tryd.prog 67 #[.agg (Elem.runs.put x).toArray, .agg (Elem.runs.put y).toArray] W fun e w' => e = .returned (.int .i64 (cmpR x y)) ∧ ∃ q os', w' = grow (W.drewN q) os' := by
  have HC := Lib.hid (fun w => code_compare w x.1 y.1)
  obtain ⟨c, hc⟩ : ∃ c : Int, cmpR x y = c := ⟨_, rfl⟩
  rw [hc]
  unfold cmpR at hc
  rw [hc] at HC
  clear hc
  obtain ⟨f1, s1, n1⟩ := x
  obtain ⟨f2, s2, n2⟩ := y
  simp only [] at HC
  show Calls Tryd.prog 67 #[.agg #[.int .u64 (f1 : Int), .int .u64 (s1 : Int), .int .i64 n1], .agg #[.int .u64 (f2 : Int), .int .u64 (s2 : Int), .int .i64 n2]] W _
  go_enter Tryd.func67, Tryd.ntmps67
  go_wp2_with (go_at_call 68; refine (HC.out _).mono ?_; rintro e w' ⟨rfl, rfl⟩)
  go_ret
  exact ⟨rfl, 0, _, by rw [alloc_eq_grow, alloc_eq_grow, grow_grow]; rfl⟩
theorem ltOf_cmp (x y : Rn) : ltOf cmpR x y = decide (x.1 < y.1) := by
  unfold ltOf cmpR
  by_cases h1 : x.1 < y.1
  · simp [h1]
  · by_cases h2 : y.1 < x.1 <;> simp [h1, h2]
theorem swo_cmp : SWO (ltOf cmpR) where
  irrefl x := by rw [ltOf_cmp]; simp
  trans x y z h1 h2 := by rw [ltOf_cmp] at *; simp at *; omega
  ntrans x y z h1 h2 := by rw [ltOf_cmp] at *; simp at *; omega
theorem upd_sorted {α : Type} [Inhabited α] (enc : α → List Value) (k : Nat) (w : World) (g off m : Nat) (d : Array α) (os : Array Obj) : Upd (fun b => b = g) w (sortWorldK enc k w g off m d os) := by
  refine ⟨rfl, rfl, rfl, size_sortWorldK_c enc k w g off m d os, fun b hb hne => ?_⟩
  unfold sortWorldK
  show ((putRowK enc k (Sort.ahead w m) g off d).heap ++ os)[b]? = _
  rw [Array.getElem?_append_left (by rw [size_putRowK]; exact hb)]
  show ((Sort.ahead w m).heap.modify g _)[b]? = _
  rw [Array.getElem?_modify, if_neg (fun e => hne e.symm)]
  rfl
theorem vec_holds {w : World} {g off n cap : Nat} {l : List Rn} (hn : n = l.length) (hc : ∀ j u, (Elem.runs.all l)[j]? = some u → w.cell? ⟨g, off + j, none⟩ = some u) (hle : n ≤ cap) (hsp : ∀ j, j < cap * 3 → w.frozen? ⟨g, off + j, none⟩ = false) : HoldsK Elem.runs.put 3 w g off l.toArray := by
  subst hn
  intro t ht
  rw [size_flatK] at ht
  have ht' : t < l.length * 3 := by simpa using ht
  have hi : t / 3 < l.length := by omega
  rw [get_flatK _ _ _ _ ht]
  refine ⟨?_, hsp t (by omega)⟩
  have h1 := Elem.runs.all_at (l := l) (i := t / 3) (x := l[t / 3]) (List.getElem?_eq_getElem hi) (t % 3) (show t % 3 < 3 by omega)
  rw [show t / 3 * Elem.runs.size + t % 3 = t by simp only [Elem.runs]; omega] at h1
  have hlen : t % 3 < (Elem.runs.put l[t / 3]).length := by rw [Elem.len]; show t % 3 < 3; omega
  rw [List.getElem?_eq_getElem hlen] at h1
  rw [hc t _ h1]
  have e1 : l.toArray[t / 3]! = l[t / 3] := by simp [hi]
  rw [e1, getElem!_pos (Elem.runs.put l[t / 3]) (t % 3) hlen]
  rfl
theorem holds_seq {w : World} {g off n cap : Nat} {l : List Rn} (hn : n = l.length) (h : HoldsK Elem.runs.put 3 w g off l.toArray) : Seq Elem.runs w (.slice (some ⟨g, off, none⟩) n cap) l := by
  refine Seq.at hn fun j u hj => ?_
  have hjl : j < l.length * 3 := by
    have := (List.getElem?_eq_some_iff.1 hj).1
    rw [Elem.length_all] at this
    exact this
  have hi : j / 3 < l.length := by omega
  have h1 := Elem.runs.all_at (l := l) (i := j / 3) (x := l[j / 3]) (List.getElem?_eq_getElem hi) (j % 3) (show j % 3 < 3 by omega)
  rw [show j / 3 * Elem.runs.size + j % 3 = j by simp only [Elem.runs]; omega] at h1
  rw [h1] at hj
  have h2 := (h.cell (i := j / 3) (c := j % 3) (by simpa using hi) (by omega)).1
  rw [show off + j / 3 * 3 + j % 3 = off + j by omega] at h2
  rw [h2]
  have e1 : l.toArray[j / 3]! = l[j / 3] := by simp [hi]
  obtain ⟨hlen, e2⟩ := List.getElem?_eq_some_iff.1 hj
  rw [e1, getElem!_pos (Elem.runs.put l[j / 3]) (j % 3) hlen, e2]
set_option maxHeartbeats 1000000 in
theorem code_sort (w : World) (a : Option Addr) (n cap : Nat) (l : List Rn) (hv : Vec Elem.runs w (.slice a n cap) l) (hn : n ≤ 300) :
    Calls Tryd.prog 66 #[.slice a n cap, .func (.func 67) #[] #[]] w fun e w' => e = .returned (.tuple #[]) ∧ ∃ l' : List Rn, l'.Perm l ∧ Rises l' ∧ Seq Elem.runs w' (.slice a n cap) l' ∧ Upd (In (.slice a n cap)) w w' := by
  have hnl := hv.elem
  rcases hv with ⟨e, rfl⟩ | ⟨g, off, c, e, hg, hle, hm, hc, hsp⟩
  · injection e with e1 e2 e3
    subst e1 e2 e3
    refine (AnyF.slices_SortFunc_none { sortRun with } none 0 _ w).mono fun e w' h => ?_
    obtain ⟨h1, h2⟩ := h
    rw [h2]
    exact ⟨h1, [], List.Perm.refl _, (fun i j _ hj => absurd hj (Nat.not_lt_zero _)), Seq.nil w, Upd.refl _ w⟩
  · injection e with e1 e2 e3
    subst e1 e3
    have hH : HoldsK Elem.runs.put 3 w g off l.toArray := vec_holds rfl hc hle (fun j hj => (hsp j hj).2)
    have eg : ∀ args w, (callFunc 67 args).run Tryd.prog w = .ok (.enter 67 args) w := enters_of Tryd.func67 (by kernel_rfl) rfl
    have hcon := AnyQ.slices_SortFunc sortRun 3 Tryd.isAgg68 Tryd.sizeOf68 Elem.runs.put (fun _ => rfl) Elem.runs.one cmpR swo_cmp 67 #[] g off cap l.toArray w eg (fun _ _ _ _ x y => code_cmp x y _) hH hg (by rw [List.size_toArray]; omega)
    change Calls Tryd.prog 66 _ _ _ at hcon
    rw [List.size_toArray, ← e2] at hcon
    refine hcon.mono fun e w' h => ?_
    obtain ⟨h1, d', m, os, hp, hs, rfl⟩ := h
    obtain ⟨p1, p2, p3⟩ := hp
    have hsz : d'.size = l.length := by rw [p1, List.size_toArray]
    have hh := holdsK_sortWorldK_c Elem.runs.put 3 w g off l.toArray d' m os hH hg p1
    refine ⟨h1, d'.toList, ?_, ?_, holds_seq (by rw [Array.length_toList, hsz, e2]) (by rw [Array.toArray_toList]; exact hh), (upd_sorted Elem.runs.put 3 w g off m d' os).mono (fun b hb => by subst hb; rfl)⟩
    · have e4 : d'.extract 0 n = d' := by rw [e2, ← hsz, Array.extract_size]
      have e5 : l.toArray.extract 0 n = l.toArray := by rw [e2, ← List.size_toArray, Array.extract_size]
      rw [e4, e5] at p3
      exact p3
    · intro i j hij hj
      rw [Array.length_toList, hsz] at hj
      have := hs i j (Nat.zero_le _) hij (by rw [e2]; exact hj)
      rw [ltOf_cmp, decide_eq_false_iff_not] at this
      have e6 : d'.toList.getD i rn0 = d'[i]! := by simp [List.getD_eq_getElem?_getD, show i < d'.size by omega]
      have e7 : d'.toList.getD j rn0 = d'[j]! := by simp [List.getD_eq_getElem?_getD, show j < d'.size by omega]
      rw [e6, e7]
      omega
end Go.Proofs.YtomepdgddpajoaaDoor
/- The program's geo: Meet: contract. -/
namespace Go.Proofs.YtomepdgddpajoaaDoor
open Go.RowKit GeoMath
set_option linter.unusedVariables false

def Picking (w : World) (l : List Rn) (nn : Nat) (v i : Value) (wr : World) : Prop :=
  ∃ j : Nat, j ≤ nn ∧ i = .int .i64 (j : Int) ∧ Vec Elem.runs wr v ((l.take j).filter okR) ∧ (∀ b, In v b → w.heap.size ≤ b) ∧ Below w.heap.size w wr
def Hit (s : List Rn) (m : Nat) : Prop := (s.getD m rn0).1 < endN (s.getD (m - 1) rn0).1 (s.getD (m - 1) rn0).2.1 (s.getD (m - 1) rn0).2.2
def Looking (w2 : World) (s : List Rn) (q : Nat) (i : Value) (wr : World) : Prop :=
  ∃ k : Nat, 1 ≤ k ∧ k ≤ q + 1 ∧ i = .int .i64 (k : Int) ∧ (∀ m, 1 ≤ m → m < k → m < q → ¬ Hit s m) ∧ Below w2.heap.size w2 wr
theorem pick_yes {l : List Rn} {j : Nat} {x : Rn} (h : l[j]? = some x) (hx : okR x = true) : (l.take (j + 1)).filter okR = (l.take j).filter okR ++ [x] := by
  rw [List.take_add_one, List.filter_append, h]; simp [hx]
theorem pick_no {l : List Rn} {j : Nat} {x : Rn} (h : l[j]? = some x) (hx : okR x = false) : (l.take (j + 1)).filter okR = (l.take j).filter okR := by
  rw [List.take_add_one, List.filter_append, h]; simp [hx]
theorem pick_le (l : List Rn) (j : Nat) : ((l.take j).filter okR).length ≤ j := by
  have := List.length_filter_le okR (l.take j)
  rw [List.length_take] at this
  omega
set_option maxRecDepth 100000 in
set_option maxHeartbeats 4000000 in
theorem code_meet (w : World) (a : Option Addr) (nn cap : Nat) (l : List Rn) (hl : Seq Elem.runs w (.slice a nn cap) l) (hk : nn ≤ 300) (hb : ∀ x ∈ l, RnB x) :
    Calls Tryd.prog 33 #[.slice a nn cap] w fun e w' => e = .returned (.bool (meetN l)) ∧ Below w.heap.size w w' := by
  obtain ⟨i0, hi, hz0, hz1, hz2⟩ := info_parts infoRun
  have HNN := Lib.hid hl.len
  have HL := Lib.hid hl; have HB := Lib.hid hb
  obtain ⟨ans, hans⟩ : ∃ b, meetN l = b := ⟨_, rfl⟩
  rw [hans]
  have HANS := Lib.hid hans
  clear hl hb hans
  go_enter Tryd.func33, Tryd.ntmps33
  go_wp2
  go_loopw [3, 9] (fun v i wr => Picking w l nn v i wr) (fun v i _ => nn - (intOf i).toNat)
  case atStart => exact ⟨0, Nat.zero_le _, rfl, Vec.nil _, (by intro b hb; cases hb), Below.refl _ _⟩
  case round =>
    obtain ⟨j, hj, rfl, hv, hin, hb⟩ := hrel
    have hpl := pick_le l j
    obtain ⟨L, hL⟩ : ∃ L, (l.take j).filter okR = L := ⟨_, rfl⟩
    rw [hL] at hv hpl
    obtain ⟨a', cap', rfl, hvc1, hvc2⟩ := hv.slice'
    obtain ⟨q, hq⟩ : ∃ q, L.length = q := ⟨_, rfl⟩
    rw [hq] at hv hin hvc1 hpl
    rw [hq]
    have HQ := Lib.hid hq; have HLL := Lib.hid hL
    have V := Lib.hid hv; have N := Lib.hid hin; have B := Lib.hid hb
    have sr := hb.size
    clear hv hin hb hq hL
    by_cases hjl : j < nn
    · obtain ⟨⟨f, s, n⟩, hx⟩ : ∃ x, l[j]? = some x := ⟨l[j]'(by rw [← HNN.out]; exact hjl), List.getElem?_eq_getElem _⟩
      obtain ⟨b2, off2, rfl, hcell⟩ := (HL.out.below (Nat.le_refl _) B.out).elem hx
      have hxb := HB.out _ (List.mem_of_getElem? hx)
      obtain ⟨hf, hs, hn⟩ := hxb
      simp only [] at hf hs hn
      have HM := Lib.hid (fun w => code_may w f s n hf hs hn)
      unfold runV at HM
      obtain ⟨n1, n2⟩ := hn
      have HX := Lib.hid hx
      have d0 : wr.cell? ⟨b2, off2 + j * 3, none⟩ = some (.int .u64 (f : Int)) := hcell 0 _ rfl
      have d1 : wr.cell? ⟨b2, off2 + j * 3 + 1, none⟩ = some (.int .u64 (s : Int)) := hcell 1 _ rfl
      have d2 : wr.cell? ⟨b2, off2 + j * 3 + 2, none⟩ = some (.int .i64 n) := hcell 2 _ rfl
      have q2 : decide ((j : Int) < (nn : Int)) = true := decide_eq_true (by omega)
      have q3 : (0 : Int) ≤ (j : Int) := by omega
      have q4 : (j : Int) < (nn : Int) := by omega
      obtain ⟨b12, hb12⟩ : ∃ b, wr.heap.size = b := ⟨_, rfl⟩
      have K12 : Hid (Blk (wr.alloc (.cells #[.int .u64 (f : Int), .int .u64 (s : Int), .int .i64 n] 68)) b12 68 (runC f s n)) := Lib.hid (by rw [← hb12]; exact Blk.new wr _ _)
      clear hx hcell
      cases hm : mayN f s n with
      | false =>
        rw [hm] at HM
        have HP : Hid ((l.take (j + 1)).filter okR = L) := Lib.hid (by rw [pick_no HX.out (by unfold okR; rw [hm]; rfl), HLL.out])
        clear hm
        go_wp2_with fail
        refine (HM.out _).mono ?_; rintro e w5 ⟨rfl, hb⟩
        have B5 := Lib.hid (below_then (B.out.alloc sr _) (Nat.le_trans sr (by simp)) hb)
        have V5 := Lib.hid ((V.out.alloc _).upd (updFalse_of hb) (fun _ _ => id))
        clear hb d0 d1 d2 hb12
        go_wp2
        go_roundw
        case rel => exact ⟨j + 1, by omega, by go_num, by rw [HP.out]; exact V5.out, N.out, B5.out⟩
        case measure => simp [intOf]; omega
      | true =>
        rw [hm] at HM
        by_cases h0 : 0 < n
        · have HP : Hid ((l.take (j + 1)).filter okR = L ++ [(f, s, n)]) := Lib.hid (by rw [pick_yes HX.out (okR_iff.2 ⟨hm, h0⟩), HLL.out])
          have t0 : decide ((0 : Int) < n) = true := decide_eq_true h0
          clear hm h0
          go_wp2_with fail
          refine (HM.out _).mono ?_; rintro e w5 ⟨rfl, hb⟩
          have B5 := Lib.hid (below_then (B.out.alloc sr _) (Nat.le_trans sr (by simp)) hb)
          have V5 := Lib.hid ((V.out.alloc _).upd (updFalse_of hb) (fun _ _ => id))
          have K5 := (K12.out.grew hb)
          have s5 := B5.out.size
          have g0 : w5.cell? ⟨b12, 0, none⟩ = some (.int .u64 (f : Int)) := K5.cell 0
          have g1 : w5.cell? ⟨b12, 1, none⟩ = some (.int .u64 (s : Int)) := K5.cell 1
          have g2 : w5.cell? ⟨b12, 2, none⟩ = some (.int .i64 n) := K5.cell 2
          clear hb K5 d0 d1 d2 hb12
          go_wp2_with (at_builtin; refine wpList_append_vec (E := Elem.runs) rfl (.tmp 20) (.tmp 22) 66 rfl 68 i0 (.agg #[.int .u64 0, .int .u64 0, .int .i64 0]) 24 Tryd.underlying66 hi hz0 hz1 hz2 rfl (.slice a' q cap') (.slice (some ⟨w5.heap.size, 0, none⟩) 1 1) L [(f, s, n)] rfl rfl (V5.out.alloc _) (runs_oneAt _ _ (f, s, n) _ rfl) ?_ ?_ ?_; (rw [HQ.out]; simp only [maxLen, List.length_cons, List.length_nil]; omega); (rw [HQ.out]; simp only [List.length_cons, List.length_nil]; omega); intro v2 w2 hv2 hu2 hin2; have V2 := Lib.hid hv2; have BZ := Lib.hid (vec_below (B5.out.alloc s5 _) (Nat.le_trans s5 (by simp)) N.out hu2); have N2 := Lib.hid hin2; clear hv2 hu2 hin2)
          go_roundw
          case rel =>
            refine ⟨j + 1, by omega, by go_num, by rw [HP.out]; exact V2.out, fun b hb => ?_, BZ.out⟩
            rcases N2.out b hb with x | x
            · exact N.out b x
            · simp at x; omega
          case measure => simp [intOf]; omega
        · have HP : Hid ((l.take (j + 1)).filter okR = L) := Lib.hid (by rw [pick_no HX.out (by unfold okR; rw [hm]; simp [h0]), HLL.out])
          have t0 : decide ((0 : Int) < n) = false := decide_eq_false h0
          clear hm h0
          go_wp2_with fail
          refine (HM.out _).mono ?_; rintro e w5 ⟨rfl, hb⟩
          have B5 := Lib.hid (below_then (B.out.alloc sr _) (Nat.le_trans sr (by simp)) hb)
          have V5 := Lib.hid ((V.out.alloc _).upd (updFalse_of hb) (fun _ _ => id))
          have K5 := (K12.out.grew hb)
          have g0 : w5.cell? ⟨b12, 0, none⟩ = some (.int .u64 (f : Int)) := K5.cell 0
          have g1 : w5.cell? ⟨b12, 1, none⟩ = some (.int .u64 (s : Int)) := K5.cell 1
          have g2 : w5.cell? ⟨b12, 2, none⟩ = some (.int .i64 n) := K5.cell 2
          clear hb K5 d0 d1 d2 hb12
          go_wp2
          go_roundw
          case rel => exact ⟨j + 1, by omega, by go_num, by rw [HP.out]; exact V5.out, N.out, B5.out⟩
          case measure => simp [intOf]; omega
    · obtain rfl : j = nn := by omega
      have q2 : decide ((j : Int) < (j : Int)) = false := decide_eq_false (by omega)
      have hfil : l.filter okR = L := by rw [← HLL.out, HNN.out, List.take_length]
      have HSORT := Lib.hid (code_sort wr a' q cap' L V.out (by omega))
      obtain ⟨wl, rfl⟩ : ∃ wl, wl = wr := ⟨_, rfl⟩
      go_wp2_with fail
      refine HSORT.out.mono ?_; rintro e w2 ⟨rfl, l', hp, hr, hseq, hu⟩
      have B2 := Lib.hid (vec_below B.out sr N.out hu)
      have s2 := B2.out.size
      have hlen' : l'.length = q := by rw [hp.length_eq, HQ.out]
      have hmem : ∀ x ∈ l', okR x = true ∧ RnB x := by
        intro x hx
        have h1 := hp.mem_iff.1 hx
        rw [← hfil] at h1
        obtain ⟨h2, h3⟩ := List.mem_filter.1 h1
        exact ⟨h3, HB.out x h2⟩
      have hans' : meetN l' = ans := by rw [meetN_perm hp, ← hfil, meetN_filter]; exact HANS.out
      have HOK := Lib.hid hmem; have HR := Lib.hid hr; have S2 := Lib.hid hseq; have HA2 := Lib.hid hans'; have HLN := Lib.hid hlen'
      clear hp hr hseq hu hlen' hmem hans' hfil HSORT
      go_wp2
      go_loopw [6] (fun i wr => Looking w2 l' q i wr) (fun i _ => q + 1 - (intOf i).toNat)
      case atStart => exact ⟨1, Nat.le_refl _, by omega, rfl, fun m h1 h2 => by omega, Below.refl _ _⟩
      case round =>
        obtain ⟨k, hk1, hkq, rfl, hno, hb⟩ := hrel
        have NO := Lib.hid hno; have BL := Lib.hid hb
        have B3 := Lib.hid (below_then B2.out s2 hb)
        have s3 := B3.out.size
        clear hno hb
        by_cases hlt : k < q
        · obtain ⟨p, hp⟩ : ∃ p, k - 1 = p := ⟨_, rfl⟩
          have e5 : (k : Int) - 1 = (p : Int) := by omega
          have hkl : k < l'.length := by rw [HLN.out]; exact hlt
          have hpl' : p < l'.length := by rw [HLN.out]; omega
          obtain ⟨⟨f1, s1, n1⟩, hx1⟩ : ∃ x, l'[k]? = some x := ⟨l'[k]'hkl, List.getElem?_eq_getElem _⟩
          obtain ⟨⟨f2, s2', n2⟩, hx2⟩ : ∃ x, l'[p]? = some x := ⟨l'[p]'hpl', List.getElem?_eq_getElem _⟩
          obtain ⟨b1, off1, rfl, hc1⟩ := S2.out.elem hx1
          obtain ⟨b1', off1', e1, hc2⟩ := S2.out.elem hx2
          injection e1 with e1
          injection e1 with eb eo _
          subst eb eo
          obtain ⟨_, hx1b⟩ := HOK.out _ (List.mem_of_getElem? hx1)
          obtain ⟨_, hx2b⟩ := HOK.out _ (List.mem_of_getElem? hx2)
          obtain ⟨hf1, hs1, hn1⟩ := hx1b
          obtain ⟨hf2, hs2, hn2⟩ := hx2b
          simp only [] at hf1 hs1 hn1 hf2 hs2 hn2
          have HEND := Lib.hid (fun w => code_end w f2 s2' n2 hf2 hs2 hn2)
          obtain ⟨n11, n12⟩ := hn1
          obtain ⟨n21, n22⟩ := hn2
          unfold runV at HEND
          obtain ⟨E, hE⟩ : ∃ E, endN f2 s2' n2 = E := ⟨_, rfl⟩
          rw [hE] at HEND
          have hhit : Hit l' k ↔ f1 < E := by
            unfold Hit
            rw [hp, show l'.getD k rn0 = (f1, s1, n1) by rw [List.getD_eq_getElem?_getD, hx1]; rfl, show l'.getD p rn0 = (f2, s2', n2) by rw [List.getD_eq_getElem?_getD, hx2]; rfl, ← hE]
          have u0 : w2.cell? ⟨b1, off1 + k * 3, none⟩ = some (.int .u64 (f1 : Int)) := hc1 0 _ rfl
          have v0 : w2.cell? ⟨b1, off1 + p * 3, none⟩ = some (.int .u64 (f2 : Int)) := hc2 0 _ rfl
          have v1 : w2.cell? ⟨b1, off1 + p * 3 + 1, none⟩ = some (.int .u64 (s2' : Int)) := hc2 1 _ rfl
          have v2 : w2.cell? ⟨b1, off1 + p * 3 + 2, none⟩ = some (.int .i64 n2) := hc2 2 _ rfl
          have hb1 : b1 < w2.heap.size := World.block_lt_of_cell? w2 _ u0
          have j0 : (0 : Int) ≤ (p : Int) := by omega
          have j1 : (p : Int) < (q : Int) := by omega
          have j2 : (0 : Int) ≤ (k : Int) := by omega
          have j3 : (k : Int) < (q : Int) := by omega
          have q5 : decide ((k : Int) < (q : Int)) = true := decide_eq_true (by omega)
          have q5' : decide (k < q) = true := decide_eq_true hlt
          have HHIT := Lib.hid hhit
          clear hx1 hx2 hc1 hc2 hE hhit hp
          by_cases hh : f1 < E
          · have t1 : decide ((f1 : Int) < (E : Int)) = true := decide_eq_true (by omega)
            have t1' : decide (f1 < E) = true := decide_eq_true hh
            have YES := Lib.hid (HHIT.out.2 hh)
            clear hh
            go_wp2_with fail
            obtain ⟨EE, WW, x0, hx0, hE, hS⟩ := classOf (fun w' => Below w2.heap.size w2 w') (w := wr) BL.out.drew
            have hne : Nonempty EE := ⟨x0⟩
            have c0 : ∀ x, (WW x).cell? ⟨b1, off1 + k * 3, none⟩ = some (.int .u64 (f1 : Int)) := fun x => ((hS x).cell (p := ⟨b1, off1 + k * 3, none⟩) hb1).trans u0
            have c1 : ∀ x, (WW x).cell? ⟨b1, off1 + p * 3, none⟩ = some (.int .u64 (f2 : Int)) := fun x => ((hS x).cell (p := ⟨b1, off1 + p * 3, none⟩) hb1).trans v0
            have c2 : ∀ x, (WW x).cell? ⟨b1, off1 + p * 3 + 1, none⟩ = some (.int .u64 (s2' : Int)) := fun x => ((hS x).cell (p := ⟨b1, off1 + p * 3 + 1, none⟩) hb1).trans v1
            have c3 : ∀ x, (WW x).cell? ⟨b1, off1 + p * 3 + 2, none⟩ = some (.int .i64 n2) := fun x => ((hS x).cell (p := ⟨b1, off1 + p * 3 + 2, none⟩) hb1).trans v2
            have HS := Lib.hid hS; have HEE := Lib.hid hE
            clear hS hE
            refine wp_region_quiet_of WW x0 hx0 (by kernel_rfl) (by kernel_rfl) ?_
            repeat (go_big_quiet_step (first
              | (go_at_call 32; refine (HEND.out _).mono ?_; rintro e w6 ⟨rfl, hb⟩; exact ⟨rfl, HEE.out _ (below_then (HS.out _) (HS.out _).size hb)⟩)))
            refine wpQuiet_nil ?_
            rintro _ ⟨nq, rfl⟩
            clear c0 c1 c2 c3 hx0
            go_wp2
            go_ret
            exact ⟨ret_b (a := true) (by rw [← HA2.out]; exact (sorted_hit (fun x hx => (HOK.out x hx).1) HR.out hk1 (by rw [HLN.out]; exact hlt) YES.out).symm), below_then B2.out s2 (HS.out nq)⟩
          · have t1 : decide ((f1 : Int) < (E : Int)) = false := decide_eq_false (by omega)
            have t1' : decide (f1 < E) = false := decide_eq_false hh
            have NOT := Lib.hid (fun x => hh (HHIT.out.1 x))
            clear hh
            go_wp2_with fail
            obtain ⟨EE, WW, x0, hx0, hE, hS⟩ := classOf (fun w' => Below w2.heap.size w2 w') (w := wr) BL.out.drew
            have hne : Nonempty EE := ⟨x0⟩
            have c0 : ∀ x, (WW x).cell? ⟨b1, off1 + k * 3, none⟩ = some (.int .u64 (f1 : Int)) := fun x => ((hS x).cell (p := ⟨b1, off1 + k * 3, none⟩) hb1).trans u0
            have c1 : ∀ x, (WW x).cell? ⟨b1, off1 + p * 3, none⟩ = some (.int .u64 (f2 : Int)) := fun x => ((hS x).cell (p := ⟨b1, off1 + p * 3, none⟩) hb1).trans v0
            have c2 : ∀ x, (WW x).cell? ⟨b1, off1 + p * 3 + 1, none⟩ = some (.int .u64 (s2' : Int)) := fun x => ((hS x).cell (p := ⟨b1, off1 + p * 3 + 1, none⟩) hb1).trans v1
            have c3 : ∀ x, (WW x).cell? ⟨b1, off1 + p * 3 + 2, none⟩ = some (.int .i64 n2) := fun x => ((hS x).cell (p := ⟨b1, off1 + p * 3 + 2, none⟩) hb1).trans v2
            have HS := Lib.hid hS; have HEE := Lib.hid hE
            clear hS hE
            refine wp_region_quiet_of WW x0 hx0 (by kernel_rfl) (by kernel_rfl) ?_
            repeat (go_big_quiet_step (first
              | (go_at_call 32; refine (HEND.out _).mono ?_; rintro e w6 ⟨rfl, hb⟩; exact ⟨rfl, HEE.out _ (below_then (HS.out _) (HS.out _).size hb)⟩)))
            refine wpQuiet_nil ?_
            rintro _ ⟨nq, rfl⟩
            clear c0 c1 c2 c3 hx0
            go_wp2
            go_roundw
            case rel => exact ⟨k + 1, by omega, by omega, by go_num, fun m h1 h2 h3 => by
              rcases Nat.lt_or_ge m k with h | h
              · exact NO.out m h1 h h3
              · obtain rfl : m = k := by omega
                exact NOT.out, HS.out nq⟩
            case measure => simp [intOf]; omega
        · have q5 : decide ((k : Int) < (q : Int)) = false := decide_eq_false (by omega)
          have q5' : decide (k < q) = false := decide_eq_false hlt
          have HLT := Lib.hid hlt
          clear hlt
          go_wp2
          go_ret
          exact ⟨ret_b (a := false) (by rw [← HA2.out]; exact (sorted_none (fun x hx => (HOK.out x hx).1) HR.out (fun m h1 h2 => by rw [HLN.out] at h2; exact NO.out m h1 (by have := HLT.out; omega) h2)).symm), B3.out⟩
end Go.Proofs.YtomepdgddpajoaaDoor
