/- Marks (layer 3): Left: its contract. -/
import Derived.Test.YtnkahcfkbpbhiaaRowIt
namespace Go.Proofs.Ytnkahcfkbpbhiaa
open Go.RowKit Go.Shelf
set_option linter.unusedVariables false
attribute [local go_sem] Oper.semAt_some

def sumsR (pre : List Row) : Nat := MarkMath.sums (pre.map (·.1))
theorem sumsR_snoc (pre : List Row) (x : Row) : sumsR (pre ++ [x]) = sumsR pre + x.1.2 := by unfold sumsR; rw [List.map_append, List.map_singleton, MarkMath.sums_snoc]
theorem sumsR_le (pre : List Row) : sumsR pre ≤ 256 * pre.length := by
  induction pre with
  | nil => simp [sumsR, MarkMath.sums]
  | cons x t ih =>
    have := x.2.2
    have e : sumsR (x :: t) = x.1.2 + sumsR t := by
      unfold sumsR
      rw [List.map_cons, show x.1 :: t.map (·.1) = [x.1] ++ t.map (·.1) from rfl, MarkMath.sums_append]
      simp [MarkMath.sums]
    rw [e, List.length_cons]; omega
theorem sumsR_all {L : List Bool} {xs : List Row} (h : AllCome L xs) : sumsR xs = MarkMath.left L := by unfold sumsR; rw [h, MarkMath.sums_all]
def topsR (pre : List Row) : Nat := MarkMath.tops (pre.map (·.1))
theorem topsR_snoc (pre : List Row) (x : Row) : topsR (pre ++ [x]) = max (topsR pre) x.1.2 := by unfold topsR; rw [List.map_append, List.map_singleton, MarkMath.tops_snoc]
theorem topsR_le (pre : List Row) : topsR pre ≤ 256 := by
  rcases MarkMath.tops_of (pre.map (·.1)) 0 with h | ⟨x, hx, h⟩
  · unfold topsR MarkMath.tops; omega
  · obtain ⟨y, _, rfl⟩ := List.mem_map.1 hx
    have := y.2.2
    unfold topsR MarkMath.tops; omega
theorem topsR_all {L : List Bool} {xs : List Row} (h : AllCome L xs) : topsR xs = MarkMath.longest L := by unfold topsR; rw [h, MarkMath.tops_all]
theorem rowsFrom_len (r : List Bool) : ∀ a i, (MarkMath.rowsFrom a i r).length ≤ r.length + 1 := by
  induction r with
  | nil => intro a i; unfold MarkMath.rowsFrom; split <;> simp
  | cons x t ih =>
    intro a i
    cases x with
    | false => unfold MarkMath.rowsFrom; have := ih a (i + 1); simp; omega
    | true =>
      unfold MarkMath.rowsFrom
      have := ih (i + 1) (i + 1)
      rw [List.length_append]
      split <;> simp <;> omega
theorem rows_len (L : List Bool) : (MarkMath.rows L).length ≤ L.length + 1 := rowsFrom_len L 0 0

set_option maxRecDepth 100000 in
set_option maxHeartbeats 2000000 in
theorem left_in (p o g : Nat) (L : List Bool) (w : World) (hm : IsMarks w p o g L) :
    CallsIn Fence.wide 5 Try.prog 32 #[.pointer (some ⟨p, o, none⟩)] w fun e W' => e = .returned (.int .i64 (MarkMath.left L : Nat)) ∧ Below w.heap.size w W' := by
  have hp := hm.lt
  have hg := hm.row.lt
  have hN : (MarkMath.rows L).length ≤ 257 := Nat.le_trans (rows_len L) (by have := hm.big; omega)
  have HM := Lib.hid hm; clear hm
  refine callsIn_of_wp_marks Try.func32 rfl trivial ?_ rfl
  simp only [Try.ntmps32, List.size_toArray, List.length_cons, List.length_nil, Nat.reduceAdd, Nat.reduceSub, Array.replicate_succ, Array.replicate_zero, List.push_toArray, List.append_toArray, List.nil_append, List.cons_append]
  gi_wp2_with (refine ⟨trivial, ?_⟩; gi_at_call 34; refine (rows_in Fence.wide _ trivial rfl _ _).mono ?_; rintro e w' ⟨rfl, rfl⟩)
  have bS := Boxed.new w 3 (.int .i64 0)
  have bN := Boxed.new (w.alloc (.cells #[.int .i64 0] 3)) 58 (.pointer (some ⟨p, o, none⟩))
  rw [World.size_alloc] at bN
  have hB0 : Below w.heap.size w ((w.alloc (.cells #[.int .i64 0] 3)).alloc (.cells #[.pointer (some ⟨p, o, none⟩)] 58)) := ((Below.refl _ w).alloc (Nat.le_refl _) _).alloc (by simp) _
  refine wpIn_rangeFunc_ownF rfl (by decide) (gf := 38) (lb := #[.pointer (some ⟨w.heap.size + 1, 0, none⟩)]) rfl trivial (enters_of Try.func38 (by kernel_rfl) rfl)
    (rows_stops Fence.wide _ trivial rfl (by decide) (w.heap.size + 1) p o g L _ bN.cell ((HM.out.alloc _).alloc _)) keeps_t (keeps_b (fun k hk => by rcases hk with rfl | rfl | rfl <;> simp <;> omega)) (Below.refl _ _) (fun _ => rfl)
    (fun pre W => (W.cell? ⟨w.heap.size, 0, none⟩ = some (.int .i64 (sumsR pre : Nat)) ∧ W.frozen? ⟨w.heap.size, 0, none⟩ = false) ∧ Below w.heap.size w W)
    (fun _ _ _ => False)
    (OwnFrom.and (Own.from (fun s A B row hs hg hr => ⟨cell_kept hs.1 hg hr, (frozen_kept hs.1 hg hr).trans hs.2⟩) _) (ownFrom_below (Nat.le_refl _) (by simp; omega)))
    (fun _ _ _ _ _ hs _ _ => hs)
    ⟨⟨(bS.alloc _).cell, (bS.alloc _).frozen⟩, hB0⟩
    (fun x => { tmps := #[.pointer (some ⟨p, o, none⟩), undef, .int .i64 0, .pointer (some ⟨w.heap.size, 0, none⟩), undef, .int .i64 (x.1.2 : Int), .pointer (some ⟨p, o, none⟩), .func (.func 38) #[] #[.pointer (some ⟨w.heap.size + 1, 0, none⟩)], .int .i64 (x.1.1 : Int), .int .i64 (x.1.2 : Int), undef, undef, undef, undef], defers := [] }) ?assign ?body ?done ?stop
  case assign =>
    intro l x W K hK
    gi_wp2
    exact hK
  case body =>
    rintro l pre x W ⟨⟨hc, hf⟩, hB⟩ hlen
    have h1 := sumsR_le pre
    have h2 := x.2.2
    have HS := Lib.hid (sumsR_snoc pre x)
    obtain ⟨s, hs⟩ : ∃ s, sumsR pre = s := ⟨_, rfl⟩
    rw [hs] at hc h1 HS
    obtain ⟨⟨xa, xn⟩, hxx⟩ := x
    have hsb : s ≤ 70000 := by omega
    have h2' : xn ≤ 256 := h2
    have HB := Lib.hid hB; have HC := Lib.hid hc
    clear hs h1 hlen hB
    gi_wp2
    exact ⟨KeepsOthers.setCell _ _ _, (Keeps.refl _ _).setCell (by rintro (h | h | h) <;> simp at h <;> omega) _, ⟨by rw [HS.out]; exact World.cell?_setCell_same' _ _ _ (by rw [HC.out]; rfl), by rw [World.frozen?_setCell]; exact hf⟩, HB.out.setCell (p := ⟨w.heap.size, 0, none⟩) (Nat.le_refl _) _⟩
  case done =>
    rintro D ys W hD hS ⟨⟨hc, _⟩, hB⟩ hK
    rw [sumsR_all hS] at hc
    gi_wp2
    refine ⟨by simp, .inl ⟨_, _, rfl, run_takeDeferred hK, ?_⟩⟩
    exact ⟨_, results_tmp rfl _ _ _, rfl, hB.trans (belowK_b (w := w) (Nat.le_refl _) W D _ _ (by simp at hD; omega) hK rfl rfl)⟩
  case stop =>
    rintro D c pre W _ _ h _
    exact h.elim
theorem left_any {w : World} {p o g : Nat} {L : List Bool} (hm : IsMarks w p o g L) :
    Calls Try.prog 32 #[.pointer (some ⟨p, o, none⟩)] w fun e W' => e = .returned (.int .i64 (MarkMath.left L : Nat)) ∧ Below w.heap.size w W' := callsIn_wide.1 (left_in p o g L w hm)

end Go.Proofs.Ytnkahcfkbpbhiaa
