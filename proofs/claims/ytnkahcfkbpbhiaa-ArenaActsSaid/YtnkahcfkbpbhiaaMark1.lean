/- Marks (layer 3): New, part, turn, Mark, Free, Has: contracts. -/
import Derived.Test.YtnkahcfkbpbhiaaBools
import Derived.Test.YtnkahcfkbpbhiaaRows
import Derived.WalkKit
import Derived.WalkSpells
import Derived.WalkLawsBesides
import Derived.Outline
import Derived.Lib.Hide
namespace Go.Proofs.Ytnkahcfkbpbhiaa
open Go.RowKit
set_option linter.unusedVariables false

/-- The marks at place o of block p: what is taken lies in block g. -/
structure IsMarks (w : World) (p o g : Nat) (L : List Bool) : Prop where
  head : w.cell? ⟨p, o, none⟩ = some (.slice (some ⟨g, 0, none⟩) L.length L.length)
  row : BRow w 4 g L
  ne : p ≠ g
  pos : 1 ≤ L.length
  big : L.length ≤ 256
theorem IsMarks.lt {w : World} {p o g : Nat} {L : List Bool} (h : IsMarks w p o g L) : p < w.heap.size := World.block_lt_of_cell? w _ h.head
theorem IsMarks.upd {S : Nat → Prop} {w w' : World} {p o g : Nat} {L : List Bool} (h : IsMarks w p o g L) (u : Upd S w w') (hp : ¬ S p) (hg : ¬ S g) : IsMarks w' p o g L :=
  ⟨(World.cell?_of_block (w := w) (u.block p h.lt hp)).trans h.head, h.row.upd u hg, h.ne, h.pos, h.big⟩
/-- Behind a write into its places. -/
theorem IsMarks.written {w w' : World} {p o g : Nat} {L M : List Bool} (h : IsMarks w p o g L) (u : Upd (fun k => k = g) w w') (hr : BRow w' 4 g M) (hl : M.length = L.length) : IsMarks w' p o g M :=
  ⟨by rw [hl]; exact (World.cell?_of_block (w := w) (u.block p h.lt h.ne)).trans h.head, hr, h.ne, by rw [hl]; exact h.pos, by rw [hl]; exact h.big⟩
theorem IsMarks.alloc {w : World} {p o g : Nat} {L : List Bool} (h : IsMarks w p o g L) (x : Obj) : IsMarks (w.alloc x) p o g L := h.upd ((Upd.refl (fun _ => False) w).alloc x) id id
theorem IsMarks.below {w w' : World} {p o g : Nat} {L : List Bool} (h : IsMarks w p o g L) {B : Nat} (hp : p < B) (hg : g < B) (hb : Below B w w') : IsMarks w' p o g L :=
  h.upd (Upd.ofBelow hb) (by omega) (by omega)

theorem sizeB (w : World) : (sizeOf (Try.prog.elem 31)).run Try.prog w = .ok 1 w := by kernel_rfl
theorem infoB : (Try.prog.info? 4).map (fun i => (i.zero, i.size, i.bytes)) = some (some (.bool false), 1, 1) := by kernel_rfl

/-! ### New -/
def Made (w : World) (n : Nat) (e : Ending) (w' : World) : Prop :=
  ∃ p g, e = .returned (.tuple #[.pointer (some ⟨p, 0, none⟩), .int .i64 0]) ∧ IsMarks w' p 0 g (MarkMath.rep n false) ∧ w.heap.size ≤ p ∧ w.heap.size ≤ g ∧ Upd (fun _ => False) w w'
theorem new_ok (n : Nat) (h0 : 1 ≤ n) (h1 : n ≤ 256) (w : World) : Calls Try.prog 26 #[.int .i64 (n : Int)] w (Made w n) := by
  obtain ⟨i0, hi, hz0, hz1, hz2⟩ := info_parts infoB
  go_enter Try.func26, Try.ntmps26
  go_wp2_with (at_make; refine wpList_make_bools rfl _ _ 31 rfl 4 i0 Try.underlying31 hi hz0 hz1 hz2 _ _ _ n rfl rfl rfl ?_ ?_; omega; intro w1 hr hu hs)
  have S1 := Lib.hid hs; have R1 := Lib.hid hr; have U1 := Lib.hid hu
  clear hs hr hu
  go_wp2
  go_ret2
  have hlt := R1.out.lt
  refine ⟨w.heap.size + 1, w.heap.size, rfl, ⟨?_, R1.out.alloc _, by omega, by rw [MarkMath.length_rep]; exact h0, by rw [MarkMath.length_rep]; exact h1⟩, by omega, Nat.le_refl _, U1.out.alloc _⟩
  rw [MarkMath.length_rep, ← S1.out]
  exact (Blk.new w1 _ _).cell 0
theorem new_bad (n : Int) (h : n < 1 ∨ 256 < n) (w : World) : Calls Try.prog 26 #[.int .i64 n] w fun e w' => e = .returned (.tuple #[.pointer none, .int .i64 2]) ∧ w = w' := by
  by_cases h0 : n < 1
  · clear h
    go_enter Try.func26, Try.ntmps26
    go_wp2
    go_ret2
    exact ⟨rfl, rfl⟩
  · have h1 : 256 < n := by omega
    have h2 : 1 ≤ n := by omega
    clear h h0
    go_enter Try.func26, Try.ntmps26
    go_wp2
    go_ret2
    exact ⟨rfl, rfl⟩

/-! ### part -/
def InAt (L : List Bool) (a k : Int) : Prop := 0 ≤ a ∧ 1 ≤ k ∧ a + k ≤ (L.length : Int)
instance (L : List Bool) (a k : Int) : Decidable (InAt L a k) := inferInstanceAs (Decidable (_ ∧ _))
theorem part_ok {w : World} {p o g : Nat} {L : List Bool} (h : IsMarks w p o g L) (a k : Nat) (hk : 1 ≤ k) (hl : a + k ≤ L.length) :
    Calls Try.prog 36 #[.pointer (some ⟨p, o, none⟩), .int .i64 (a : Int), .int .i64 (k : Int)] w fun e w' => e = .returned (.tuple #[.slice (some ⟨g, a, none⟩) k (L.length - a), .int .i64 0]) ∧ w = w' := by
  have hb := h.big
  obtain ⟨q, ho, hr⟩ := run_slice_both (P := Try.prog) 31 Try.underlying31 sizeB .i64 .i64 g 0 L.length L.length a (a + k) (by omega) hl
  rw [show ((a + k : Nat) : Int) = (a : Int) + (k : Int) by omega, show a + k - a = k by omega] at hr
  obtain rfl : q = a := by rw [ho (by omega)]; omega
  have hc := h.head
  clear h ho
  go_enter Try.func36, Try.ntmps36
  go_wp2
  go_ret2
  exact ⟨rfl, rfl⟩
theorem part_out {w : World} {p o g : Nat} {L : List Bool} (h : IsMarks w p o g L) (a k : Int) (ha : (Lit.int .i64 a).wf = true) (hk : (Lit.int .i64 k).wf = true) (hn : ¬ InAt L a k) :
    Calls Try.prog 36 #[.pointer (some ⟨p, o, none⟩), .int .i64 a, .int .i64 k] w fun e w' => e = .returned (.tuple #[.slice none 0 0, .int .i64 2]) ∧ w = w' := by
  have hb := h.big
  have hc := h.head
  have b : ∀ n : Int, (Lit.int .i64 n).wf = true → -9223372036854775808 ≤ n ∧ n ≤ 9223372036854775807 := by
    intro n h; simp [Lit.wf, IntKind.min, IntKind.max, IntKind.signed, IntKind.bits] at h; omega
  obtain ⟨a1, a2⟩ := b _ ha
  obtain ⟨k1, k2⟩ := b _ hk
  clear h b ha hk
  unfold InAt at hn
  by_cases h0 : a < 0
  · clear hn
    go_enter Try.func36, Try.ntmps36
    go_wp2
    go_ret2
    exact ⟨rfl, rfl⟩
  · have h0' : 0 ≤ a := by omega
    clear h0
    by_cases h1 : k < 1
    · clear hn
      go_enter Try.func36, Try.ntmps36
      go_wp2
      go_ret2
      exact ⟨rfl, rfl⟩
    · have h1' : 1 ≤ k := by omega
      have h2 : (L.length : Int) - a < k := by omega
      clear h1 hn
      go_enter Try.func36, Try.ntmps36
      go_wp2
      go_ret2
      exact ⟨rfl, rfl⟩
theorem part_nil (w : World) (a k : Int) :
    Calls Try.prog 36 #[.pointer none, .int .i64 a, .int .i64 k] w fun e w' => e = .returned (.tuple #[.slice none 0 0, .int .i64 1]) ∧ w = w' := by
  go_enter Try.func36, Try.ntmps36
  go_wp2
  go_ret2
  exact ⟨rfl, rfl⟩

/-! ### slices.Contains -/
def Found (L : List Bool) (a k : Nat) (x : Bool) (w : World) (e : Ending) (w' : World) : Prop :=
  (∃ r : Int, e = .returned (.int .i64 r) ∧ ((r = -1 ∧ MarkMath.allAt L a k (!x)) ∨ (0 ≤ r ∧ ¬ MarkMath.allAt L a k (!x)))) ∧ w = w'
theorem index_any (w : World) (g a k cap : Nat) (L : List Bool) (hr : BRow w 4 g L) (hl : a + k ≤ L.length) (hb : L.length ≤ 256) (x : Bool) :
    Calls Try.prog 39 #[.slice (some ⟨g, a, none⟩) k cap, .bool x] w (Found L a k x w) := by
  have HR := Lib.hid hr; clear hr
  go_enter Try.func39, Try.ntmps39
  go_wp2
  go_loop [8] (fun i => ∃ j : Nat, j ≤ k ∧ i = .int .i64 (j : Int) ∧ MarkMath.allAt L a j (!x)) (fun i => k - (intOf i).toNat)
  case atStart => exact ⟨0, Nat.zero_le _, rfl, MarkMath.allAt.none _ _ _⟩
  case round =>
    obtain ⟨j, hj, rfl, hf⟩ := hrel
    have HF := Lib.hid hf; clear hf
    by_cases hlt : j < k
    · have hcell := HR.out.cell (a + j) (by omega)
      obtain ⟨c, hcd⟩ : ∃ c, L.getD (a + j) false = c := ⟨_, rfl⟩
      rw [hcd] at hcell
      have HC := Lib.hid hcd; clear hcd
      by_cases hx : c = x
      · subst hx
        go_wp2
        go_ret
        refine ⟨⟨_, rfl, .inr ⟨by omega, fun h => ?_⟩⟩, rfl⟩
        have := h.at (i := a + j) (by omega) (by omega) false
        rw [HC.out] at this
        cases c <;> cases this
      · have hx1 : (x == c) = false := by cases x <;> cases c <;> simp_all
        have HX := Lib.hid hx; clear hx
        go_wp2
        go_round
        case rel => exact ⟨j + 1, by omega, by go_num, HF.out.snoc (by omega) (by rw [HC.out]; have := HX.out; cases x <;> cases c <;> simp_all)⟩
        case measure => simp [intOf]; omega
    · obtain rfl : j = k := by omega
      go_wp2
      go_ret
      exact ⟨⟨_, rfl, .inl ⟨rfl, HF.out⟩⟩, rfl⟩
theorem contains_any (w : World) (g a k cap : Nat) (L : List Bool) (hr : BRow w 4 g L) (hl : a + k ≤ L.length) (hb : L.length ≤ 256) (x r : Bool) (he : (!decide (MarkMath.allAt L a k (!x))) = r) :
    Calls Try.prog 37 #[.slice (some ⟨g, a, none⟩) k cap, .bool x] w fun e w' => e = .returned (.bool r) ∧ w = w' := by
  have HC := Lib.hid (index_any w g a k cap L hr hl hb x)
  have HE := Lib.hid he
  clear hr he
  go_enter Try.func37, Try.ntmps37
  go_wp2_with fail
  refine HC.out.mono ?_; rintro e w' ⟨⟨q, rfl, hq⟩, rfl⟩
  rcases hq with ⟨rfl, hf⟩ | ⟨h0, hf⟩
  · have HF := Lib.hid hf; clear hf
    go_wp2
    go_ret
    refine ⟨?_, rfl⟩
    rw [← HE.out, decide_eq_true HF.out]; rfl
  · have HF := Lib.hid hf; clear hf
    go_wp2
    go_ret
    refine ⟨?_, rfl⟩
    rw [← HE.out, decide_eq_false HF.out]; rfl

/-! ### turn, Mark, Free -/
def turnE (b : Bool) (code : Int) (L : List Bool) (a k : Int) : Int := if InAt L a k then (if MarkMath.allAt L a.toNat k.toNat (!b) then 0 else code) else 2
def turnL (b : Bool) (L : List Bool) (a k : Int) : List Bool := if InAt L a k ∧ MarkMath.allAt L a.toNat k.toNat (!b) then MarkMath.setAt L a.toNat k.toNat b else L
theorem turnE_out {b : Bool} {code : Int} {L : List Bool} {a k : Int} (h : ¬ InAt L a k) : turnE b code L a k = 2 := by unfold turnE; rw [if_neg h]
theorem turnL_out {b : Bool} {L : List Bool} {a k : Int} (h : ¬ InAt L a k) : turnL b L a k = L := by unfold turnL; rw [if_neg fun x => h x.1]
theorem inAt_nat {L : List Bool} {a k : Nat} (hk : 1 ≤ k) (h : a + k ≤ L.length) : InAt L a k := ⟨by omega, by omega, by omega⟩
theorem turnE_no {b : Bool} {code : Int} {L : List Bool} {a k : Nat} (hk : 1 ≤ k) (h : a + k ≤ L.length) (hf : ¬ MarkMath.allAt L a k (!b)) : turnE b code L a k = code := by
  unfold turnE; rw [if_pos (inAt_nat hk h), Int.toNat_natCast, Int.toNat_natCast, if_neg hf]
theorem turnL_no {b : Bool} {L : List Bool} {a k : Nat} (hf : ¬ MarkMath.allAt L a k (!b)) : turnL b L a k = L := by
  unfold turnL; rw [Int.toNat_natCast, Int.toNat_natCast, if_neg fun x => hf x.2]
theorem turnE_yes {b : Bool} {code : Int} {L : List Bool} {a k : Nat} (hk : 1 ≤ k) (hf : MarkMath.allAt L a k (!b)) : turnE b code L a k = 0 := by
  unfold turnE; rw [if_pos (inAt_nat hk (hf.le hk)), Int.toNat_natCast, Int.toNat_natCast, if_pos hf]
theorem turnL_yes {b : Bool} {L : List Bool} {a k : Nat} (hk : 1 ≤ k) (hf : MarkMath.allAt L a k (!b)) : turnL b L a k = MarkMath.setAt L a k b := by
  unfold turnL; rw [Int.toNat_natCast, Int.toNat_natCast, if_pos ⟨inAt_nat hk (hf.le hk), hf⟩]
def Wrote (w : World) (p o g : Nat) (M : List Bool) (v : Value) (e : Ending) (w' : World) : Prop := e = .returned v ∧ IsMarks w' p o g M ∧ Upd (fun k => k = g) w w'
theorem IsMarks.same {w : World} {p o g : Nat} {L : List Bool} (h : IsMarks w p o g L) : IsMarks w p o g L ∧ Upd (fun k => k = g) w w := ⟨h, Upd.refl _ _⟩

def TurnRel (w : World) (g a k : Nat) (L : List Bool) (b : Bool) (i : Value) (wr : World) : Prop :=
  ∃ j : Nat, j ≤ k ∧ i = .int .i64 (j : Int) ∧ BRow wr 4 g (MarkMath.setAt L a j b) ∧ Upd (fun k => k = g) w wr
theorem turn_ok {w : World} {p o g : Nat} {L : List Bool} (h : IsMarks w p o g L) (a k : Nat) (hk : 1 ≤ k) (b : Bool) (code : Int) (hf : MarkMath.allAt L a k (!b)) :
    Calls Try.prog 33 #[.pointer (some ⟨p, o, none⟩), .int .i64 (a : Int), .int .i64 (k : Int), .bool b, .int .i64 code] w (Wrote w p o g (MarkMath.setAt L a k b) (.int .i64 0)) := by
  have hl := hf.le hk
  have hb := h.big
  have HP := Lib.hid (part_ok h a k hk hl)
  have HC := Lib.hid (contains_any w g a k (L.length - a) L h.row hl hb b false (by rw [decide_eq_true hf]; rfl))
  have H := Lib.hid h
  clear h hf
  go_enter Try.func33, Try.ntmps33
  go_wp2_with (first | (go_at_call 36; refine HP.out.mono ?_; rintro e w' ⟨rfl, rfl⟩) | (go_at_call 37; refine HC.out.mono ?_; rintro e w' ⟨rfl, rfl⟩))
  go_loopw [30] (fun i wr => TurnRel w g a k L b i wr) (fun i _ => k - (intOf i).toNat)
  case atStart => exact ⟨0, Nat.zero_le _, rfl, by rw [MarkMath.setAt_none]; exact H.out.row, Upd.refl _ _⟩
  case round =>
    obtain ⟨j, hj, rfl, hr, hu⟩ := hrel
    by_cases hlt : j < k
    · have hcell := hr.cell (a + j) (by rw [MarkMath.length_setAt _ (by omega)]; omega)
      obtain ⟨c, hcd⟩ : ∃ c, (MarkMath.setAt L a j b).getD (a + j) false = c := ⟨_, rfl⟩
      rw [hcd] at hcell; clear hcd
      have hfr : wr.frozen? ⟨g, a + j, none⟩ = false := hr.frozen _
      have HR := Lib.hid hr; clear hr
      go_wp2
      refine ⟨⟨j + 1, by omega, by go_num, ?_, hu.setCell (.inl rfl) _⟩, by simp [intOf]; omega⟩
      rw [← MarkMath.setAt_snoc _ (by omega)]
      exact HR.out.put (a + j) b
    · obtain rfl : j = k := by omega
      have HH := Lib.hid (And.intro hr hu)
      clear hr hu
      go_wp2
      go_ret
      exact ⟨rfl, H.out.written HH.out.2 HH.out.1 (MarkMath.length_setAt _ hl), HH.out.2⟩
theorem turn_no {w : World} {p o g : Nat} {L : List Bool} (h : IsMarks w p o g L) (a k : Nat) (hk : 1 ≤ k) (hl : a + k ≤ L.length) (b : Bool) (code : Int) (hf : ¬ MarkMath.allAt L a k (!b)) :
    Calls Try.prog 33 #[.pointer (some ⟨p, o, none⟩), .int .i64 (a : Int), .int .i64 (k : Int), .bool b, .int .i64 code] w fun e w' => e = .returned (.int .i64 code) ∧ w = w' := by
  have hb := h.big
  have HP := Lib.hid (part_ok h a k hk hl)
  have HC := Lib.hid (contains_any w g a k (L.length - a) L h.row hl hb b true (by rw [decide_eq_false hf]; rfl))
  clear h hf
  go_enter Try.func33, Try.ntmps33
  go_wp2_with (first | (go_at_call 36; refine HP.out.mono ?_; rintro e w' ⟨rfl, rfl⟩) | (go_at_call 37; refine HC.out.mono ?_; rintro e w' ⟨rfl, rfl⟩))
  go_ret
  exact ⟨rfl, rfl⟩
theorem turn_out {w : World} {p o g : Nat} {L : List Bool} (h : IsMarks w p o g L) (a k : Int) (ha : (Lit.int .i64 a).wf = true) (hk : (Lit.int .i64 k).wf = true) (hn : ¬ InAt L a k) (b : Bool) (code : Int) :
    Calls Try.prog 33 #[.pointer (some ⟨p, o, none⟩), .int .i64 a, .int .i64 k, .bool b, .int .i64 code] w fun e w' => e = .returned (.int .i64 2) ∧ w = w' := by
  have HP := Lib.hid (part_out h a k ha hk hn)
  clear h hn ha hk
  go_enter Try.func33, Try.ntmps33
  go_wp2_with (go_at_call 36; refine HP.out.mono ?_; rintro e w' ⟨rfl, rfl⟩)
  go_ret
  exact ⟨rfl, rfl⟩
/-- turn, whatever it is called with. -/
theorem turn_any {w : World} {p o g : Nat} {L : List Bool} (h : IsMarks w p o g L) (a k : Int) (ha : (Lit.int .i64 a).wf = true) (hk : (Lit.int .i64 k).wf = true) (b : Bool) (code : Int) :
    Calls Try.prog 33 #[.pointer (some ⟨p, o, none⟩), .int .i64 a, .int .i64 k, .bool b, .int .i64 code] w (Wrote w p o g (turnL b L a k) (.int .i64 (turnE b code L a k))) := by
  by_cases hn : InAt L a k
  · obtain ⟨h0, h1, h2⟩ := hn
    obtain ⟨a, rfl⟩ := Int.eq_ofNat_of_zero_le h0
    obtain ⟨k, rfl⟩ := Int.eq_ofNat_of_zero_le (show 0 ≤ k by omega)
    by_cases hf : MarkMath.allAt L a k (!b)
    · have := turn_ok h a k (by omega) b code hf
      rwa [← turnL_yes (by omega) hf, ← turnE_yes (code := code) (by omega) hf] at this
    · refine (turn_no h a k (by omega) (by omega) b code hf).mono ?_
      rintro e w' ⟨rfl, rfl⟩
      exact ⟨by rw [turnE_no (by omega) (by omega) hf], by rw [turnL_no hf]; exact h, Upd.refl _ _⟩
  · refine (turn_out h a k ha hk hn b code).mono ?_
    rintro e w' ⟨rfl, rfl⟩
    exact ⟨by rw [turnE_out hn], by rw [turnL_out hn]; exact h, Upd.refl _ _⟩
theorem mark_any {w : World} {p o g : Nat} {L : List Bool} (h : IsMarks w p o g L) (a k : Int) (ha : (Lit.int .i64 a).wf = true) (hk : (Lit.int .i64 k).wf = true) :
    Calls Try.prog 35 #[.pointer (some ⟨p, o, none⟩), .int .i64 a, .int .i64 k] w (Wrote w p o g (turnL true L a k) (.int .i64 (turnE true 6 L a k))) := by
  have HT := Lib.hid (turn_any h a k ha hk true 6)
  clear h ha hk
  go_enter Try.func35, Try.ntmps35
  go_wp2_with fail
  refine HT.out.mono ?_; rintro e w' ⟨rfl, hm⟩
  have HM := Lib.hid hm; clear hm
  go_wp2
  go_ret
  exact ⟨rfl, HM.out⟩
theorem free_any {w : World} {p o g : Nat} {L : List Bool} (h : IsMarks w p o g L) (a k : Int) (ha : (Lit.int .i64 a).wf = true) (hk : (Lit.int .i64 k).wf = true) :
    Calls Try.prog 27 #[.pointer (some ⟨p, o, none⟩), .int .i64 a, .int .i64 k] w (Wrote w p o g (turnL false L a k) (.int .i64 (turnE false 5 L a k))) := by
  have HT := Lib.hid (turn_any h a k ha hk false 5)
  clear h ha hk
  go_enter Try.func27, Try.ntmps27
  go_wp2_with fail
  refine HT.out.mono ?_; rintro e w' ⟨rfl, hm⟩
  have HM := Lib.hid hm; clear hm
  go_wp2
  go_ret
  exact ⟨rfl, HM.out⟩
end Go.Proofs.Ytnkahcfkbpbhiaa
