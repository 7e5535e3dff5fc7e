/- The document's own answer for layer 3 (places, one by one): contracts. -/
import Derived.Test.YtfmbfonnabebmaaAliveMark
namespace Go.Proofs.Ytfmbfonnabebmaa
open Go.RowKit
set_option linter.unusedVariables false

/-- The document's marks at block p: their row lies in block g. -/
structure IsRef (w : World) (p g : Nat) (L : List Bool) : Prop where
  head : Blk w p 39 #[.slice (some ⟨g, 0, none⟩) L.length L.length]
  row : BRow w 4 g L
  ne : p ≠ g
  pos : 1 ≤ L.length
  big : L.length ≤ 256
theorem IsRef.upd {S : Nat → Prop} {w w' : World} {p g : Nat} {L : List Bool} (h : IsRef w p g L) (u : Upd S w w') (hp : ¬ S p) (hg : ¬ S g) : IsRef w' p g L := ⟨h.head.upd u hp, h.row.upd u hg, h.ne, h.pos, h.big⟩
theorem IsRef.alloc {w : World} {p g : Nat} {L : List Bool} (h : IsRef w p g L) (o : Obj) : IsRef (w.alloc o) p g L := ⟨h.head.alloc o, h.row.alloc o, h.ne, h.pos, h.big⟩
theorem IsRef.drew {w : World} {p g : Nat} {L : List Bool} (h : IsRef w p g L) : IsRef w.drew p g L := ⟨h.head, h.row, h.ne, h.pos, h.big⟩
theorem IsRef.below {w w' : World} {p g : Nat} {L : List Bool} (h : IsRef w p g L) {B : Nat} (hp : p < B) (hg : g < B) (hb : Below B w w') : IsRef w' p g L := h.upd (Upd.ofBelow hb) (by omega) (by omega)
theorem IsRef.grew {w w' : World} {p g : Nat} {L : List Bool} (h : IsRef w p g L) (hb : Below w.heap.size w w') : IsRef w' p g L := h.below h.head.lt h.row.lt hb
theorem IsRef.written {w w' : World} {p g : Nat} {L M : List Bool} (h : IsRef w p g L) (u : Upd (fun k => k = g) w w') (hr : BRow w' 4 g M) (hl : M.length = L.length) : IsRef w' p g M :=
  ⟨by rw [hl]; exact h.head.upd u h.ne, hr, h.ne, by rw [hl]; exact h.pos, by rw [hl]; exact h.big⟩

def RefMade (w : World) (n : Nat) (e : Ending) (w' : World) : Prop :=
  ∃ p g, e = .returned (.tuple #[.pointer (some ⟨p, 0, none⟩), .bool true]) ∧ IsRef w' p g (MarkMath.rep n false) ∧ w.heap.size ≤ p ∧ w.heap.size ≤ g ∧ Upd (fun _ => False) w w'
theorem ref_new_ok (n : Nat) (h0 : 1 ≤ n) (h1 : n ≤ 256) (w : World) : Calls Try.prog 12 #[.int .i64 (n : Int)] w (RefMade w n) := by
  obtain ⟨i0, hi, hz0, hz1, hz2⟩ := info_parts infoB
  go_enter Try.func12, Try.ntmps12
  go_wp2_with (at_make; refine wpList_make_bools rfl _ _ 37 rfl 4 i0 Try.underlying37 hi hz0 hz1 hz2 _ _ _ n rfl rfl rfl ?_ ?_; omega; intro w1 hr hu hs)
  have S1 := Lib.hid hs; have R1 := Lib.hid hr; have U1 := Lib.hid hu
  clear hs hr hu
  go_wp2
  go_ret2
  have hlt := R1.out.lt
  refine ⟨w.heap.size + 1, w.heap.size, rfl, ⟨?_, R1.out.alloc _, by omega, by rw [MarkMath.length_rep]; exact h0, by rw [MarkMath.length_rep]; exact h1⟩, by omega, Nat.le_refl _, U1.out.alloc _⟩
  rw [MarkMath.length_rep, ← S1.out]
  exact Blk.new w1 _ _
theorem ref_new_bad (n : Int) (h : n < 1 ∨ 256 < n) (w : World) : Calls Try.prog 12 #[.int .i64 n] w fun e w' => e = .returned (.tuple #[.pointer none, .bool false]) ∧ w = w' := by
  by_cases h0 : n < 1
  · clear h
    go_enter Try.func12, Try.ntmps12
    go_wp2
    go_ret2
    exact ⟨rfl, rfl⟩
  · have h1 : 256 < n := by omega
    have h2 : 1 ≤ n := by omega
    clear h h0
    go_enter Try.func12, Try.ntmps12
    go_wp2
    go_ret2
    exact ⟨rfl, rfl⟩

/-! ### is, all, set -/
theorem ref_is {w : World} {p g : Nat} {L : List Bool} (h : IsRef w p g L) (a k : Int) (ha : I64 a) (hk : I64 k) :
    Calls Try.prog 26 #[.pointer (some ⟨p, 0, none⟩), .int .i64 a, .int .i64 k] w fun e w' => e = .returned (.bool (decide (InAt L a k))) ∧ w = w' := by
  have hb := h.big
  have hc : w.cell? ⟨p, 0, none⟩ = some (.slice (some ⟨g, 0, none⟩) L.length L.length) := h.head.cell 0
  obtain ⟨a1, a2⟩ := ha
  obtain ⟨k1, k2⟩ := hk
  clear h
  by_cases h1 : k < 1
  · have hd : decide (InAt L a k) = false := decide_eq_false (fun x => by have := x.2.1; omega)
    rw [hd]; clear hd
    go_enter Try.func26, Try.ntmps26
    go_wp2
    go_ret
    exact ⟨rfl, rfl⟩
  · have h1' : 1 ≤ k := by omega
    clear h1
    by_cases h0 : a < 0
    · have hd : decide (InAt L a k) = false := decide_eq_false (fun x => by have := x.1; omega)
      rw [hd]; clear hd
      go_enter Try.func26, Try.ntmps26
      go_wp2
      go_ret
      exact ⟨rfl, rfl⟩
    · have h0' : 0 ≤ a := by omega
      clear h0
      by_cases h2 : (L.length : Int) ≤ a
      · have hd : decide (InAt L a k) = false := decide_eq_false (fun x => by have := x.2.2; omega)
        rw [hd]; clear hd
        go_enter Try.func26, Try.ntmps26
        go_wp2
        go_ret
        exact ⟨rfl, rfl⟩
      · have h2' : a < (L.length : Int) := by omega
        clear h2
        by_cases h3 : k ≤ (L.length : Int) - a
        · have hd : decide (InAt L a k) = true := decide_eq_true ⟨by omega, by omega, by omega⟩
          rw [hd]; clear hd
          go_enter Try.func26, Try.ntmps26
          go_wp2
          go_ret
          exact ⟨rfl, rfl⟩
        · have hd : decide (InAt L a k) = false := decide_eq_false (fun x => by have := x.2.2; omega)
          have h3' : decide (k ≤ (L.length : Int) - a) = false := decide_eq_false h3
          rw [hd]; clear hd h3
          go_enter Try.func26, Try.ntmps26
          go_wp2
          go_ret
          exact ⟨rfl, rfl⟩
theorem ref_all {w : World} {p g : Nat} {L : List Bool} (h : IsRef w p g L) (a k : Nat) (hl : a + k ≤ L.length) (x r : Bool) (hr : decide (MarkMath.allAt L a k x) = r) :
    Calls Try.prog 27 #[.pointer (some ⟨p, 0, none⟩), .int .i64 (a : Int), .int .i64 (k : Int), .bool x] w fun e w' => e = .returned (.bool r) ∧ w = w' := by
  have hb := h.big
  have hc : w.cell? ⟨p, 0, none⟩ = some (.slice (some ⟨g, 0, none⟩) L.length L.length) := h.head.cell 0
  have H := Lib.hid h; have HR := Lib.hid hr
  clear h hr
  go_enter Try.func27, Try.ntmps27
  go_wp2
  go_loop [9] (fun i => ∃ j : Nat, j ≤ k ∧ i = .int .i64 ((a + j : Nat) : Int) ∧ MarkMath.allAt L a j x) (fun i => a + k - (intOf i).toNat)
  case atStart => exact ⟨0, Nat.zero_le _, rfl, MarkMath.allAt.none _ _ _⟩
  case round =>
    obtain ⟨j, hj, rfl, hf⟩ := hrel
    have HF := Lib.hid hf; clear hf
    obtain ⟨q, hq⟩ : ∃ q, a + j = q := ⟨_, rfl⟩
    have hq' : j = q - a := by omega
    have hqa : a ≤ q := by omega
    rw [hq]
    have HQ := Lib.hid hq; clear hq hq'
    by_cases hlt : q < a + k
    · have hcell := H.out.row.cell q (by omega)
      obtain ⟨c, hcd⟩ : ∃ c, L.getD q false = c := ⟨_, rfl⟩
      rw [hcd] at hcell
      have HC := Lib.hid hcd; clear hcd
      by_cases hx : c = x
      · subst hx
        have hcc : (c == c) = true := by simp
        have hcc' : (c != c) = false := by simp
        go_wp2
        go_round
        case rel =>
          have := HQ.out
          refine ⟨j + 1, by omega, by rw [show a + (j + 1) = q + 1 by omega]; go_num, HF.out.snoc (by omega) ?_⟩
          rw [HQ.out]; exact HC.out
        case measure => simp [intOf]; omega
      · have hx1 : (c == x) = false := by cases x <;> cases c <;> simp_all
        have HX := Lib.hid hx; clear hx
        go_wp2
        go_ret
        refine ⟨?_, rfl⟩
        rw [← HR.out, decide_eq_false (fun h => HX.out (by have := h.at (i := q) (by omega) (by omega) false; rw [← HC.out]; exact this))]; rfl
    · have := HQ.out
      obtain rfl : j = k := by omega
      clear this
      go_wp2
      go_ret
      refine ⟨?_, rfl⟩
      rw [← HR.out, decide_eq_true HF.out]; rfl
def SetRel (w : World) (g a k : Nat) (L : List Bool) (b : Bool) (i : Value) (wr : World) : Prop :=
  ∃ j : Nat, j ≤ k ∧ i = .int .i64 ((a + j : Nat) : Int) ∧ BRow wr 4 g (MarkMath.setAt L a j b) ∧ Upd (fun k => k = g) w wr
def RefWrote (w : World) (p g : Nat) (M : List Bool) (v : Value) (e : Ending) (w' : World) : Prop := e = .returned v ∧ IsRef w' p g M ∧ Upd (fun k => k = g) w w'
theorem ref_set {w : World} {p g : Nat} {L : List Bool} (h : IsRef w p g L) (a k : Nat) (hl : a + k ≤ L.length) (b : Bool) :
    Calls Try.prog 28 #[.pointer (some ⟨p, 0, none⟩), .int .i64 (a : Int), .int .i64 (k : Int), .bool b] w (RefWrote w p g (MarkMath.setAt L a k b) (.tuple #[])) := by
  have hb := h.big
  have H := Lib.hid h
  clear h
  go_enter Try.func28, Try.ntmps28
  go_wp2
  go_loopw [8] (fun i wr => SetRel w g a k L b i wr) (fun i _ => a + k - (intOf i).toNat)
  case atStart => exact ⟨0, Nat.zero_le _, rfl, by rw [MarkMath.setAt_none]; exact H.out.row, Upd.refl _ _⟩
  case round =>
    obtain ⟨j, hj, rfl, hr, hu⟩ := hrel
    have hc : wr.cell? ⟨p, 0, none⟩ = some (.slice (some ⟨g, 0, none⟩) L.length L.length) := (H.out.head.upd hu H.out.ne).cell 0
    have HR := Lib.hid hr; have HU := Lib.hid hu
    clear hr hu
    obtain ⟨q, hq⟩ : ∃ q, a + j = q := ⟨_, rfl⟩
    have hqa : a ≤ q := by omega
    rw [hq]
    have HQ := Lib.hid hq; clear hq
    by_cases hlt : q < a + k
    · have hjk : j < k := by have := HQ.out; omega
      have hcell := HR.out.cell q (by rw [MarkMath.length_setAt _ (by omega)]; omega)
      obtain ⟨c, hcd⟩ : ∃ c, (MarkMath.setAt L a j b).getD q false = c := ⟨_, rfl⟩
      rw [hcd] at hcell; clear hcd
      have hfr : wr.frozen? ⟨g, q, none⟩ = false := HR.out.frozen _
      go_wp2
      refine ⟨⟨j + 1, by omega, by rw [show a + (j + 1) = q + 1 by have := HQ.out; omega]; go_num, ?_, HU.out.setCell (.inl rfl) _⟩, by simp [intOf]; omega⟩
      rw [← MarkMath.setAt_snoc _ (by omega), HQ.out]
      exact HR.out.put q b
    · have := HQ.out
      obtain rfl : j = k := by omega
      clear this
      go_wp2
      go_end0
      exact ⟨rfl, H.out.written HU.out HR.out (MarkMath.length_setAt _ hl), HU.out⟩

/-! ### Mark, Free -/
theorem ref_mark {w : World} {p g : Nat} {L : List Bool} (h : IsRef w p g L) (a k : Int) (ha : I64 a) (hk : I64 k) :
    Calls Try.prog 14 #[.pointer (some ⟨p, 0, none⟩), .int .i64 a, .int .i64 k] w (RefWrote w p g (turnL true L a k) (.int .i64 (turnE true 6 L a k))) := by
  have HI := Lib.hid (ref_is h a k ha hk)
  by_cases hn : InAt L a k
  · have hd : decide (InAt L a k) = true := decide_eq_true hn
    rw [hd] at HI
    clear hd
    obtain ⟨h0, h1, h2⟩ := hn
    obtain ⟨a, rfl⟩ := Int.eq_ofNat_of_zero_le h0
    obtain ⟨k, rfl⟩ := Int.eq_ofNat_of_zero_le (show 0 ≤ k by omega)
    by_cases hf : MarkMath.allAt L a k (!true)
    · have HA := Lib.hid (ref_all h a k (by omega) (!true) true (decide_eq_true hf))
      have HS := Lib.hid (ref_set h a k (by omega) true)
      rw [turnE_yes (by omega) hf, turnL_yes (by omega) hf]
      clear h hf h0 h1 h2 ha hk
      go_enter Try.func14, Try.ntmps14
      go_wp2_with (first | (go_at_call 26; refine HI.out.mono ?_; rintro e w' ⟨rfl, rfl⟩) | (go_at_call 27; refine HA.out.mono ?_; rintro e w' ⟨rfl, rfl⟩) | (go_at_call 28; refine HS.out.mono ?_; rintro e w' ⟨rfl, hm⟩; have HM := Lib.hid hm; clear hm))
      go_ret
      exact ⟨rfl, HM.out⟩
    · have HA := Lib.hid (ref_all h a k (by omega) (!true) false (decide_eq_false hf))
      have HH := Lib.hid h
      rw [turnE_no (by omega) (by omega) hf, turnL_no hf]
      clear h hf h0 h1 h2 ha hk
      go_enter Try.func14, Try.ntmps14
      go_wp2_with (first | (go_at_call 26; refine HI.out.mono ?_; rintro e w' ⟨rfl, rfl⟩) | (go_at_call 27; refine HA.out.mono ?_; rintro e w' ⟨rfl, rfl⟩))
      go_ret
      exact ⟨rfl, HH.out, Upd.refl _ _⟩
  · have hd : decide (InAt L a k) = false := decide_eq_false hn
    rw [hd] at HI
    rw [turnE_out hn, turnL_out hn]
    have HH := Lib.hid h
    clear h hd hn ha hk
    go_enter Try.func14, Try.ntmps14
    go_wp2_with (go_at_call 26; refine HI.out.mono ?_; rintro e w' ⟨rfl, rfl⟩)
    go_ret
    exact ⟨rfl, HH.out, Upd.refl _ _⟩
theorem ref_free {w : World} {p g : Nat} {L : List Bool} (h : IsRef w p g L) (a k : Int) (ha : I64 a) (hk : I64 k) :
    Calls Try.prog 16 #[.pointer (some ⟨p, 0, none⟩), .int .i64 a, .int .i64 k] w (RefWrote w p g (turnL false L a k) (.int .i64 (turnE false 5 L a k))) := by
  have HI := Lib.hid (ref_is h a k ha hk)
  by_cases hn : InAt L a k
  · have hd : decide (InAt L a k) = true := decide_eq_true hn
    rw [hd] at HI
    clear hd
    obtain ⟨h0, h1, h2⟩ := hn
    obtain ⟨a, rfl⟩ := Int.eq_ofNat_of_zero_le h0
    obtain ⟨k, rfl⟩ := Int.eq_ofNat_of_zero_le (show 0 ≤ k by omega)
    by_cases hf : MarkMath.allAt L a k (!false)
    · have HA := Lib.hid (ref_all h a k (by omega) (!false) true (decide_eq_true hf))
      have HS := Lib.hid (ref_set h a k (by omega) false)
      rw [turnE_yes (by omega) hf, turnL_yes (by omega) hf]
      clear h hf h0 h1 h2 ha hk
      go_enter Try.func16, Try.ntmps16
      go_wp2_with (first | (go_at_call 26; refine HI.out.mono ?_; rintro e w' ⟨rfl, rfl⟩) | (go_at_call 27; refine HA.out.mono ?_; rintro e w' ⟨rfl, rfl⟩) | (go_at_call 28; refine HS.out.mono ?_; rintro e w' ⟨rfl, hm⟩; have HM := Lib.hid hm; clear hm))
      go_ret
      exact ⟨rfl, HM.out⟩
    · have HA := Lib.hid (ref_all h a k (by omega) (!false) false (decide_eq_false hf))
      have HH := Lib.hid h
      rw [turnE_no (by omega) (by omega) hf, turnL_no hf]
      clear h hf h0 h1 h2 ha hk
      go_enter Try.func16, Try.ntmps16
      go_wp2_with (first | (go_at_call 26; refine HI.out.mono ?_; rintro e w' ⟨rfl, rfl⟩) | (go_at_call 27; refine HA.out.mono ?_; rintro e w' ⟨rfl, rfl⟩))
      go_ret
      exact ⟨rfl, HH.out, Upd.refl _ _⟩
  · have hd : decide (InAt L a k) = false := decide_eq_false hn
    rw [hd] at HI
    rw [turnE_out hn, turnL_out hn]
    have HH := Lib.hid h
    clear h hd hn ha hk
    go_enter Try.func16, Try.ntmps16
    go_wp2_with (go_at_call 26; refine HI.out.mono ?_; rintro e w' ⟨rfl, rfl⟩)
    go_ret
    exact ⟨rfl, HH.out, Upd.refl _ _⟩
end Go.Proofs.Ytfmbfonnabebmaa
