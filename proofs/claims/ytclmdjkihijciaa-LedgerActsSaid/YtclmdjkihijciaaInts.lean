/- Slices of int, and of structs of three ints, that came in: what reads as a list. Over whatever program. -/
import Derived.Test.YtclmdjkihijciaaBlk
namespace Go.Proofs.Ytclmdjkihijciaa
open Go.RowKit
set_option linter.unusedVariables false

def I64 (n : Int) : Prop := -9223372036854775808 ≤ n ∧ n ≤ 9223372036854775807
theorem I64.of {n : Int} (h : (Lit.int .i64 n).wf = true) : I64 n := by
  simp [Lit.wf, IntKind.min, IntKind.max, IntKind.signed, IntKind.bits] at h; exact ⟨by omega, by omega⟩
theorem I64.wf {n : Int} (h : I64 n) : (Lit.int .i64 n).wf = true := WalkArith.wf_i64 h
/-- A value that reads as a list of ints: what lies in the cells, or an empty slice, nil or not. -/
def Ints (w : World) (v : Value) (l : List Int) : Prop :=
  (∃ b off cap, v = .slice (some ⟨b, off, none⟩) l.length cap ∧ ∀ j, j < l.length → w.cell? ⟨b, off + j, none⟩ = some (.int .i64 (l.getD j 0)))
    ∨ (l = [] ∧ ∃ a cap, v = .slice a 0 cap ∧ (a = none → cap = 0))
theorem Ints.len {w : World} {a : Option Addr} {n cap : Nat} {l : List Int} (h : Ints w (.slice a n cap) l) : n = l.length := by
  rcases h with ⟨b, off, c, e, _⟩ | ⟨rfl, a', c, e, _⟩
  · injection e
  · injection e
theorem Ints.below {w w' : World} {v : Value} {l : List Int} (h : Ints w v l) {B : Nat} (hB : w.heap.size ≤ B) (hb : Below B w w') : Ints w' v l := by
  rcases h with ⟨b, off, cap, rfl, hc⟩ | h
  · refine .inl ⟨b, off, cap, rfl, fun j hj => ?_⟩
    have := hc j hj
    have hlt := World.block_lt_of_cell? w _ this
    rw [hb.cell (p := ⟨b, off + j, none⟩) (by simp only at hlt ⊢; omega)]; exact this
  · exact .inr h
theorem Ints.one (w : World) (e : TypeId) (x : Int) : Ints (w.alloc (.cells #[.int .i64 x] e)) (.slice (some ⟨w.heap.size, 0, none⟩) 1 1) [x] := by
  refine .inl ⟨w.heap.size, 0, 1, rfl, fun j hj => ?_⟩
  have h0 : j = 0 := by simpa using hj
  subst h0
  exact (Blk.new w _ _).cell 0
theorem Ints.two (w : World) (e : TypeId) (x y : Int) : Ints (w.alloc (.cells #[.int .i64 x, .int .i64 y] e)) (.slice (some ⟨w.heap.size, 0, none⟩) 2 2) [x, y] := by
  refine .inl ⟨w.heap.size, 0, 2, rfl, fun j hj => ?_⟩
  rcases j with _ | _ | j
  · exact (Blk.new w _ _).cell 0
  · exact (Blk.new w _ _).cell 1
  · simp only [List.length_cons, List.length_nil] at hj; omega
/-- What comes in as a slice of int. -/
def IsInts (w : World) (v : Value) (l : List Int) : Prop := Ints w v l ∧ (∀ n ∈ l, I64 n) ∧ l.length ≤ 9223372036854775807 ∧ (∀ a n cap, v = .slice a n cap → n ≤ cap ∧ cap ≤ 9223372036854775807)
theorem IsInts.ofNil {w : World} : IsInts w (.slice none 0 0) [] := ⟨.inr ⟨rfl, none, 0, rfl, fun _ => rfl⟩, by simp, by simp, by intro a n cap h; injection h; omega⟩
theorem IsInts.ofRow {w : World} {x : Addr} {len cap : Nat} {zs : List Int} (hl : len ≤ cap) (hm : cap ≤ maxLen) (hz : zs.length = cap) (hc : ∀ i, i < zs.length → w.cell? (x.add i) = some (.int .i64 (zs.getD i 0)))
    (hw : ∀ n ∈ zs, (Lit.int .i64 n).wf = true) : IsInts w (.slice (some x) len cap) (zs.take len) := by
  have hlen : (zs.take len).length = len := by simp; omega
  have hm' : cap ≤ 9223372036854775807 := by simp only [maxLen] at hm; omega
  refine ⟨?_, fun n hn => .of (hw n (List.mem_of_mem_take hn)), by omega, by intro a n c h; injection h; omega⟩
  by_cases h0 : 0 < zs.length
  · obtain ⟨b, off, rfl, hc'⟩ := ints_at hc h0
    refine .inl ⟨b, off, cap, by rw [hlen], fun j hj => ?_⟩
    rw [hlen] at hj
    rw [hc' j (by omega)]
    simp [List.getD_eq_getElem?_getD, List.getElem?_take_of_lt hj]
  · have : zs = [] := List.length_eq_zero_iff.1 (by omega)
    subst this
    obtain rfl : len = 0 := by simp at hz; omega
    exact .inr ⟨by simp, some x, cap, rfl, by simp⟩

/-- A value that reads as a list of structs of three ints. -/
def Trip : Type := Int × Int × Int
def Trips (w : World) (v : Value) (l : List (Int × Int × Int)) : Prop :=
  (∃ b off cap, v = .slice (some ⟨b, off, none⟩) l.length cap ∧ ∀ j, j < l.length → w.cell? ⟨b, off + j * 3, none⟩ = some (.int .i64 (l.getD j (0, 0, 0)).1) ∧ w.cell? ⟨b, off + j * 3 + 1, none⟩ = some (.int .i64 (l.getD j (0, 0, 0)).2.1) ∧ w.cell? ⟨b, off + j * 3 + 2, none⟩ = some (.int .i64 (l.getD j (0, 0, 0)).2.2))
    ∨ (l = [] ∧ ∃ a cap, v = .slice a 0 cap ∧ (a = none → cap = 0))
theorem Trips.len {w : World} {a : Option Addr} {n cap : Nat} {l : List (Int × Int × Int)} (h : Trips w (.slice a n cap) l) : n = l.length := by
  rcases h with ⟨b, off, c, e, _⟩ | ⟨rfl, a', c, e, _⟩
  · injection e
  · injection e
theorem Trips.below {w w' : World} {v : Value} {l : List (Int × Int × Int)} (h : Trips w v l) {B : Nat} (hB : w.heap.size ≤ B) (hb : Below B w w') : Trips w' v l := by
  rcases h with ⟨b, off, cap, rfl, hc⟩ | h
  · refine .inl ⟨b, off, cap, rfl, fun j hj => ?_⟩
    obtain ⟨h1, h2, h3⟩ := hc j hj
    have l1 := World.block_lt_of_cell? w _ h1
    have hlt : b < B := by simp only at l1; omega
    exact ⟨(hb.cell (p := ⟨b, off + j * 3, none⟩) hlt).trans h1, (hb.cell (p := ⟨b, off + j * 3 + 1, none⟩) hlt).trans h2, (hb.cell (p := ⟨b, off + j * 3 + 2, none⟩) hlt).trans h3⟩
  · exact .inr h
def I64x3 (t : Int × Int × Int) : Prop := I64 t.1 ∧ I64 t.2.1 ∧ I64 t.2.2
def IsTrips (w : World) (v : Value) (l : List (Int × Int × Int)) : Prop := Trips w v l ∧ (∀ t ∈ l, I64x3 t) ∧ l.length ≤ 9223372036854775807 ∧ (∀ a n cap, v = .slice a n cap → n ≤ cap ∧ cap ≤ 9223372036854775807)
theorem IsTrips.below {w w' : World} {v : Value} {l : List (Int × Int × Int)} (h : IsTrips w v l) {B : Nat} (hB : w.heap.size ≤ B) (hb : Below B w w') : IsTrips w' v l := ⟨h.1.below hB hb, h.2⟩
theorem IsTrips.getD {w : World} {v : Value} {l : List (Int × Int × Int)} (h : IsTrips w v l) {j : Nat} (hj : j < l.length) : I64x3 (l.getD j (0, 0, 0)) := by
  refine h.2.1 _ ?_
  rw [List.getD_eq_getElem?_getD, List.getElem?_eq_getElem hj]
  exact List.getElem_mem hj
theorem IsTrips.ofNil {w : World} : IsTrips w (.slice none 0 0) [] := ⟨.inr ⟨rfl, none, 0, rfl, fun _ => rfl⟩, by simp, by simp, by intro a n cap h; injection h; omega⟩
theorem IsTrips.ofRow {w : World} {x : Addr} {len cap : Nat} {F : Nat → Int × Int × Int} (hl : len ≤ cap) (hm : cap ≤ maxLen)
    (hc : ∀ i, i < len → w.cell? (x.add (i * 3 + 0)) = some (.int .i64 (F i).1) ∧ w.cell? (x.add (i * 3 + 1)) = some (.int .i64 (F i).2.1) ∧ w.cell? (x.add (i * 3 + 2)) = some (.int .i64 (F i).2.2) ∧ (Lit.int .i64 (F i).1).wf = true ∧ (Lit.int .i64 (F i).2.1).wf = true ∧ (Lit.int .i64 (F i).2.2).wf = true) :
    IsTrips w (.slice (some x) len cap) ((List.range len).map F) := by
  have hlen : ((List.range len).map F).length = len := by simp
  have hm' : cap ≤ 9223372036854775807 := by simp only [maxLen] at hm; omega
  refine ⟨?_, ?_, by omega, by intro a n c h; injection h; omega⟩
  · by_cases h0 : 0 < len
    · obtain ⟨b, off, rfl, _⟩ : ∃ b off, x = ⟨b, off, none⟩ ∧ True := by
        obtain ⟨b, off, e, _⟩ := ints_at (w := w) (a := x) (k := .i64) (zs := [(F 0).1]) (fun i hi => by
          have h0' : i = 0 := by simpa using hi
          subst h0'
          simpa using (hc 0 h0).1) (by simp)
        exact ⟨b, off, e, trivial⟩
      refine .inl ⟨b, off, cap, by rw [hlen], fun j hj => ?_⟩
      rw [hlen] at hj
      obtain ⟨h1, h2, h3, _⟩ := hc j hj
      rw [Go.WideShapes.add_plain] at h1 h2 h3
      have e : ((List.range len).map F).getD j (0, 0, 0) = F j := by simp [List.getD_eq_getElem?_getD, hj]
      rw [e]
      exact ⟨h1, by rw [Nat.add_assoc]; exact h2, by rw [Nat.add_assoc]; exact h3⟩
    · obtain rfl : len = 0 := by omega
      exact .inr ⟨by simp, some x, cap, rfl, by simp⟩
  · intro t ht
    obtain ⟨i, hi, rfl⟩ := List.mem_map.1 ht
    obtain ⟨_, _, _, h1, h2, h3⟩ := hc i (by simpa using hi)
    exact ⟨.of h1, .of h2, .of h3⟩
end Go.Proofs.Ytclmdjkihijciaa
