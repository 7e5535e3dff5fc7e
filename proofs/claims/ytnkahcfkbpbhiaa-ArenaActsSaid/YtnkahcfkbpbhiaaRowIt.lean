/- Marks (layer 3): the iterator over rows that are free: its contract. -/
import Derived.RangeFuncNested
import Derived.RangeFuncBound
import Derived.RangeFuncCalls
import Derived.RangeFuncLeaves
import Derived.RangeFuncBox
import Derived.Shelf.Abstract
import Derived.Shelf.RegionOpen
import Derived.WalkKit
import Derived.OwnWalkIn
import Derived.TacticsInMore
import Derived.LoopNIn
import Derived.LoopIn
import Derived.Test.YtnkahcfkbpbhiaaMark1
namespace Go.Proofs.Ytnkahcfkbpbhiaa
open Go.RowKit Go.Shelf
set_option linter.unusedVariables false
attribute [local go_sem] Oper.semAt_some

/-- Blocks that lie as they lay. -/
def Keeps (K : Nat → Prop) (W W' : World) : Prop := ∀ k, K k → W'.heap[k]? = W.heap[k]?
theorem Keeps.refl (K : Nat → Prop) (W : World) : Keeps K W W := fun _ _ => rfl
theorem keeps_t {K : Nat → Prop} {A B C : World} (h : Keeps K A B) (k : Keeps K B C) : Keeps K A C := fun i hi => (k i hi).trans (h i hi)
theorem keeps_b {K : Nat → Prop} {w : World} (hn : ∀ k, K k → k < w.heap.size) (W : World) (l : Nat) (o o' : Obj) (hl : w.heap.size ≤ l) (h : W.heap[l]? = some o) (_ : o.isCells = false) (_ : o.isWalk = false) : Keeps K W (W.putObj l o') :=
  fun k hk => (grownBy_putObj' W l o').block k (by have := hn k hk; have := (Array.getElem?_eq_some_iff.1 h).1; omega) (by have := hn k hk; intro e; injection e; omega)
theorem Keeps.setCell {K : Nat → Prop} {W W' : World} (h : Keeps K W W') {a : Addr} (ha : ¬ K a.block) (v : Value) : Keeps K W (W'.setCell a v) :=
  keeps_t h fun k hk => Below.heap_setCell _ _ _ _ (fun e => ha (e ▸ hk))
theorem Keeps.cell {K : Nat → Prop} {W W' : World} (h : Keeps K W W') {a : Addr} (ha : K a.block) : W'.cell? a = W.cell? a := World.cell?_of_block (h _ ha)

def K3 (p g b : Nat) (k : Nat) : Prop := k = p ∨ k = g ∨ k = b
/-- A row: where it begins, how many it has. -/
abbrev Row : Type := { x : Nat × Nat // x.1 ≤ 256 ∧ x.2 ≤ 256 }
abbrev rowVals (x : Row) : Array Value := #[.int .i64 (x.1.1 : Int), .int .i64 (x.1.2 : Int)]
def Come (L : List Bool) (pre : List Row) : Prop := pre.map (·.1) <+: MarkMath.rows L
def AllCome (L : List Bool) (xs : List Row) : Prop := xs.map (·.1) = MarkMath.rows L

def RowRel (L : List Bool) (p g b : Nat) (J : List Row → World → Prop) (W : World) (a i : Value) (wr : World) : Prop :=
  ∃ (pre : List Row) (k c : Nat), k ≤ L.length ∧ c ≤ k ∧ a = .int .i64 (c : Int) ∧ i = .int .i64 (k : Int) ∧ pre.map (·.1) ++ MarkMath.rowsFrom c k (L.drop k) = MarkMath.rows L ∧ J pre wr ∧ Keeps (K3 p g b) W wr
theorem come_len {L : List Bool} {pre : List Row} {x : Nat × Nat} {t : List (Nat × Nat)} (h : pre.map (·.1) ++ (x :: t) = MarkMath.rows L) : pre.length < (MarkMath.rows L).length := by
  rw [← h]; simp

set_option maxRecDepth 100000 in
set_option maxHeartbeats 2000000 in
theorem rows1_in (F : Fence) (n : Nat) (hF : F.fn 38) (hro : F.round = none) (hn : 1 ≤ n) (l b p o g : Nat) (L : List Bool) (J Jx : List Row → World → Prop)
    (hY : ∀ pre x W, J pre W → pre.length < (MarkMath.rows L).length → YieldAt F (n - 1) Try.prog l (rowVals x) W fun e W' =>
      (e = .returned (.bool true) ∧ J (pre ++ [x]) W' ∧ Keeps (K3 p g b) W W') ∨ (e = .returned (.bool false) ∧ Jx (pre ++ [x]) W'))
    (W : World) (hb : W.cell? ⟨b, 0, none⟩ = some (.pointer (some ⟨p, o, none⟩))) (hm : IsMarks W p o g L) (h0 : J [] W) :
    CallsIn F n Try.prog 38 #[.func (.yield l) #[] #[], .pointer (some ⟨b, 0, none⟩)] W fun e W' => (∃ v, e = .returned v) ∧
      ((∃ ys, AllCome L ys ∧ J ys W') ∨ (∃ pre, Come L pre ∧ Jx pre W')) := by
  have hbig := hm.big
  have hd := hm.head
  have H := Lib.hid hm; have H0 := Lib.hid h0; have HB := Lib.hid hb
  clear hm h0
  refine callsIn_of_wp Try.func38 rfl hF ?_ hro
  simp only [Try.ntmps38, List.size_toArray, List.length_cons, List.length_nil, Nat.reduceAdd, Nat.reduceSub, Array.replicate_succ, Array.replicate_zero, List.push_toArray, List.append_toArray, List.nil_append, List.cons_append]
  gi_wp2
  gi_loopw [3, 13] (fun a i wr => RowRel L p g b J W a i wr) (fun _ i _ => L.length - (intOf i).toNat)
  case atStart => exact ⟨[], 0, 0, Nat.zero_le _, Nat.le_refl _, rfl, rfl, rfl, H0.out, Keeps.refl _ _⟩
  case round =>
    obtain ⟨pre, k, c, hk, hc, rfl, rfl, hx, hJ, hkp⟩ := hrel
    have HX := Lib.hid hx; have HJ := Lib.hid hJ; have HK := Lib.hid hkp
    clear hx hJ hkp
    by_cases hlt : k < L.length
    · have hcell : wr.cell? ⟨g, k, none⟩ = some (.bool (L.getD k false)) := (HK.out.cell (a := ⟨g, k, none⟩) (.inr (.inl rfl))).trans (H.out.row.cell k hlt)
      have hdrop : L.drop k = L.getD k false :: L.drop (k + 1) := by
        rw [List.drop_eq_getElem_cons hlt, List.getD_eq_getElem?_getD, List.getElem?_eq_getElem hlt]; rfl
      have hx := HX.out
      rw [hdrop] at hx
      obtain ⟨y, hy⟩ : ∃ y, L.getD k false = y := ⟨_, rfl⟩
      rw [hy] at hx hcell
      clear HX hdrop hy
      cases y with
      | false =>
        have HX := Lib.hid hx; clear hx
        gi_wp2
        go_roundw
        case rel => exact ⟨pre, k + 1, c, by omega, by omega, rfl, by go_num, HX.out, HJ.out, HK.out⟩
        case measure => simp [intOf]; omega
      | true =>
        unfold MarkMath.rowsFrom at hx
        by_cases hck : c < k
        · rw [if_pos hck] at hx
          have hlen := come_len hx
          obtain ⟨fn, tmps, assign, body, hy, hR⟩ := hY pre ⟨(c, k - c), by omega, by omega⟩ wr HJ.out hlen
          dsimp only [rowVals] at hy
          rw [show ((k - c : Nat) : Int) = (k : Int) - (c : Int) by omega] at hy
          have HX := Lib.hid hx; clear hx
          have HL := Lib.hid hlen; clear hlen
          gi_wp2
          refine hR.mono ?_
          rintro e W3 (⟨rfl, hJ3, hk3⟩ | ⟨rfl, hJx3⟩)
          · have H3 := Lib.hid (And.intro hJ3 hk3); clear hJ3 hk3
            gi_wp2
            go_roundw
            case rel => exact ⟨pre ++ [⟨(c, k - c), by omega, by omega⟩], k + 1, k + 1, by omega, by omega, by go_num, by go_num, by rw [List.map_append, List.append_assoc]; exact HX.out, H3.out.1, keeps_t HK.out H3.out.2⟩
            case measure => simp [intOf]; omega
          · have H3 := Lib.hid hJx3; clear hJx3
            gi_wp2
            refine bodyPost_ret (results_none rfl _ _ _) rfl ?_
            exact ⟨⟨_, rfl⟩, .inr ⟨pre ++ [⟨(c, k - c), by omega, by omega⟩], ⟨MarkMath.rowsFrom (k + 1) (k + 1) (L.drop (k + 1)), by rw [List.map_append, List.append_assoc]; exact HX.out⟩, H3.out⟩⟩
        · rw [if_neg hck] at hx
          have HX := Lib.hid hx; clear hx
          have hck' : k ≤ c := by omega
          clear hck
          gi_wp2
          refine ⟨fun _ h => (by cases h), ?_⟩
          gi_wp2
          go_roundw
          case rel => exact ⟨pre, k + 1, k + 1, by omega, by omega, by go_num, by go_num, HX.out, HJ.out, HK.out⟩
          case measure => simp [intOf]; omega
    · obtain rfl : k = L.length := by omega
      have hx := HX.out
      clear HX
      have hb3 : wr.cell? ⟨b, 0, none⟩ = some (.pointer (some ⟨p, o, none⟩)) := (HK.out.cell (a := ⟨b, 0, none⟩) (.inr (.inr rfl))).trans HB.out
      have hd3 : wr.cell? ⟨p, o, none⟩ = some (.slice (some ⟨g, 0, none⟩) L.length L.length) := (HK.out.cell (a := ⟨p, o, none⟩) (.inl rfl)).trans hd
      rw [List.drop_length] at hx
      unfold MarkMath.rowsFrom at hx
      by_cases hck : c < L.length
      · rw [if_pos hck] at hx
        have hlen := come_len hx
        obtain ⟨fn, tmps, assign, body, hy, hR⟩ := hY pre ⟨(c, L.length - c), by omega, by omega⟩ wr HJ.out hlen
        dsimp only [rowVals] at hy
        rw [show ((L.length - c : Nat) : Int) = (L.length : Int) - (c : Int) by omega] at hy
        have HX := Lib.hid hx; clear hx
        have HL := Lib.hid hlen; clear hlen
        gi_wp2
        refine hR.mono ?_
        rintro e W3 (⟨rfl, hJ3, hk3⟩ | ⟨rfl, hJx3⟩)
        · have H3 := Lib.hid (And.intro hJ3 hk3); clear hJ3 hk3
          gi_wp2
          go_end0
          exact ⟨⟨_, rfl⟩, .inl ⟨pre ++ [⟨(c, L.length - c), by omega, by omega⟩], by unfold AllCome; rw [List.map_append]; exact HX.out, H3.out.1⟩⟩
        · have H3 := Lib.hid hJx3; clear hJx3
          gi_wp2
          go_end0
          exact ⟨⟨_, rfl⟩, .inr ⟨pre ++ [⟨(c, L.length - c), by omega, by omega⟩], ⟨[], by rw [List.map_append, List.append_nil]; exact HX.out⟩, H3.out⟩⟩
      · rw [if_neg hck, List.append_nil] at hx
        have HX := Lib.hid hx; clear hx
        have hck' : L.length ≤ c := by omega
        clear hck
        gi_wp2
        go_end0
        exact ⟨⟨_, rfl⟩, .inl ⟨pre, HX.out, HJ.out⟩⟩

set_option maxHeartbeats 1000000 in
theorem rows_in (F : Fence) (n : Nat) (hF : F.fn 34) (hro : F.round = none) (a : Option Addr) (w : World) :
    CallsIn F n Try.prog 34 #[.pointer a] w fun e w' => e = .returned (.func (.func 38) #[] #[.pointer (some ⟨w.heap.size, 0, none⟩)]) ∧ w' = w.alloc (.cells #[.pointer a] 58) := by
  refine callsIn_of_wp Try.func34 rfl hF ?_ hro
  simp only [Try.ntmps34, List.size_toArray, List.length_cons, List.length_nil, Nat.reduceAdd, Nat.reduceSub, Array.replicate_succ, Array.replicate_zero, List.push_toArray, List.append_toArray, List.nil_append, List.cons_append]
  gi_wp2
  go_ret
  exact ⟨rfl, rfl⟩

/-- The marks at o of p, their row in g, and the box b of the iterator. -/
theorem rows_stops (F : Fence) (n : Nat) (hF : F.fn 38) (hro : F.round = none) (hn : 1 ≤ n) (b p o g : Nat) (L : List Bool) (w : World) (hb : w.cell? ⟨b, 0, none⟩ = some (.pointer (some ⟨p, o, none⟩))) (hm : IsMarks w p o g L) :
    SeqStopsK F n Try.prog 38 #[.pointer (some ⟨b, 0, none⟩)] rowVals (Keeps (K3 p g b)) (AllCome L) (Come L) (MarkMath.rows L).length w := fun l J Jx W hW _ _ hY h0 => by
  have hlt := World.block_lt_of_cell? w _ hb
  exact rows1_in F n hF hro hn l b p o g L J Jx hY W ((hW.cell (p := ⟨b, 0, none⟩) hlt).trans hb) (hm.below hm.lt hm.row.lt hW) h0
end Go.Proofs.Ytnkahcfkbpbhiaa
