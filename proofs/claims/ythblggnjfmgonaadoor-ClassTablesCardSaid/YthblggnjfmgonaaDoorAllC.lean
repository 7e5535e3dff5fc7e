/- What ClassTables needs of the program's All; slices of classes and of sizes. -/
import Derived.Test.YthblggnjfmgonaaDoorAliveC
import Derived.Test.YthblggnjfmgonaaDoorReads
namespace Go.Proofs.YthblggnjfmgonaaDoor
open Go.RowKit ClassMath
set_option linter.unusedVariables false

def Elem.u64s : Elem Nat := ⟨1, fun n => [.int .u64 (n : Int)], fun _ => rfl, by intro x u h; rw [List.mem_singleton.1 h]; rfl, by decide⟩
theorem NumsAt.seqI {w : World} {v : Value} {l : List Int} (h : NumsAt w .i64 v l) : Seq Elem.ints w v l := by
  obtain ⟨a, cap, rfl, _, _, h3, h4, _⟩ := h
  by_cases h0 : 0 < l.length
  · obtain ⟨b, off, rfl, _⟩ := h4 0 h0
    refine .inl ⟨b, off, cap, rfl, fun j u hj => ?_⟩
    have hjl : j < l.length := by have := (List.getElem?_eq_some_iff.1 hj).1; rw [Elem.length_all] at this; simpa [Elem.ints] using this
    obtain ⟨b', off', e, hc⟩ := h4 j hjl
    injection e with e
    injection e with eb eo _
    subst eb eo
    rw [hc]
    have h5 := Elem.ints.all_at (l := l) (i := j) (x := l.getD j 0) (by simp [List.getD_eq_getElem?_getD, hjl]) 0 (by decide)
    rw [show j * Elem.ints.size + 0 = j by simp [Elem.ints]] at h5
    rw [h5] at hj
    simpa [Elem.ints] using hj
  · have hl : l = [] := List.length_eq_zero_iff.1 (by omega)
    subst hl
    exact .inr ⟨rfl, _, _, rfl, h3⟩
theorem all_u64s (l : List Nat) : Elem.u64s.all l = l.map (fun n : Nat => Value.int .u64 (n : Int)) := by
  induction l with
  | nil => rfl
  | cons x t ih => rw [Elem.all_cons, ih]; rfl
theorem SizesAt.seq {w : World} {g : Nat} (h : SizesAt w g) : Seq Elem.u64s w (.slice (some ⟨g, 0, none⟩) 12 12) sizes := by
  refine .inl ⟨g, 0, 12, rfl, fun j u hj => ?_⟩
  rw [all_u64s] at hj
  rw [Nat.zero_add, Blk.cell h]
  rw [List.getElem?_map] at hj
  rw [← hj]
  rcases j with _ | _ | _ | _ | _ | _ | _ | _ | _ | _ | _ | _ | j
  all_goals first | rfl | simp [sizes]
/-- The size of what is a class. -/
def pick (i : Int) : Option Nat := if 0 ≤ i ∧ i < 12 then some (sizeAt i.toNat) else none
theorem pick_yes {y : Nat} (h : y < 12) : pick (y : Int) = some (sizeAt y) := by unfold pick; rw [if_pos (by omega)]; rfl
theorem pick_no {x : Int} (h : x < 0 ∨ 12 ≤ x) : pick x = none := by unfold pick; rw [if_neg (by omega)]
def allOf (l : List Int) : List Nat := if l = [] then sizes else l.filterMap pick
theorem allOf_nil : allOf [] = sizes := rfl
theorem allOf_some {l : List Int} (h : ¬ l = []) : allOf l = l.filterMap pick := if_neg h
theorem allOf_length (l : List Int) (h : l.length ≤ 300) : (allOf l).length ≤ 300 := by
  unfold allOf; split
  · decide
  · exact Nat.le_trans (List.length_filterMap_le _ _) h
theorem allOf_le (l : List Int) : ∀ x ∈ allOf l, x ≤ 1024 := by
  unfold allOf; split
  · decide
  · intro x hx
    obtain ⟨i, _, hi⟩ := List.mem_filterMap.1 hx
    unfold pick at hi
    split at hi
    · injection hi with hi; rw [← hi]; exact (size_bounds (by omega)).2
    · cases hi
theorem picked_more {l : List Int} {j : Nat} {x : Int} (h : l[j]? = some x) : (l.take (j + 1)).filterMap pick = (l.take j).filterMap pick ++ (pick x).toList := by
  rw [List.take_add_one, h, List.filterMap_append]
  congr 1
theorem picked_length (l : List Int) (j : Nat) (h : l.length ≤ 300) : ((l.take j).filterMap pick).length ≤ 300 :=
  Nat.le_trans (List.length_filterMap_le _ _) (by rw [List.length_take]; omega)
theorem u64_oneAt (w : World) (t : TypeId) (x g : Nat) (hg : g = w.heap.size) : Seq Elem.u64s (w.alloc (.cells #[.int .u64 (x : Int)] t)) (.slice (some ⟨g, 0, none⟩) 1 1) [x] := by
  subst hg; exact Seq.new w t [x] 1
theorem Vec.slice' {α : Type} {E : Elem α} {w : World} {v : Value} {l : List α} (h : Vec E w v l) : ∃ a cap, v = .slice a l.length cap ∧ l.length ≤ cap ∧ cap ≤ 9223372036854775807 := by
  rcases h with ⟨rfl, rfl⟩ | ⟨g, off, cap, rfl, _, h1, h2, _⟩
  · exact ⟨none, 0, rfl, by simp, by omega⟩
  · exact ⟨_, cap, rfl, h1, by simp only [maxLen] at h2; omega⟩
theorem vec_below {B : Nat} {a w1 w2 : World} {v1 : Value} (hb : Below B a w1) (hB : B ≤ w1.heap.size) (hin : ∀ k, In v1 k → B ≤ k) (u : Upd (In v1) w1 w2) : Below B a w2 := hb.trans (u.below hin hB)
theorem infoU64 : (Tryd.prog.info? 22).map (fun i => (i.zero, i.size, i.bytes)) = some (some (.int .u64 0), 1, 8) := by kernel_rfl
/-- All's contract. -/
def AllC (w0 : World) : Prop := ∀ (w : World), Below w0.heap.size w0 w → ∀ (a : Option Addr) (n cap : Nat) (l : List Int), NumsAt w .i64 (.slice a n cap) l → n ≤ 300 →
  Calls Tryd.prog 19 #[.slice a n cap] w fun e w' => ∃ a' n' cap', e = .returned (.slice a' n' cap') ∧ Seq Elem.u64s w' (.slice a' n' cap') (allOf l) ∧ cap' ≤ 9223372036854775807 ∧ n' ≤ cap' ∧ Below w.heap.size w w'
end Go.Proofs.YthblggnjfmgonaaDoor
