/- Memory (layer 2): New, Load, Store, Get, Put, Copy, Cas: contracts. -/
import Derived.Test.YtomepdgddpajoaaDoorMem1
namespace Go.Proofs.YtomepdgddpajoaaDoor
open Go.RowKit
set_option linter.unusedVariables false
set_option maxRecDepth 100000

/-! ### New -/
def Made (w : World) (n : Nat) (e : Ending) (w' : World) : Prop := ∃ p g, e = .returned (.tuple #[.pointer (some ⟨p, 0, none⟩), .int .i64 0]) ∧ IsMem w' p g (MemMath.rep n 0) ∧ w.heap.size ≤ p ∧ w.heap.size ≤ g ∧ Upd (fun _ => False) w w'
theorem new_ok (n : Nat) (h0 : 1024 ≤ n) (h1 : n ≤ 1048576) (h2 : n % 1024 = 0) (w : World) :
    Calls Tryd.prog 11 #[.int .u64 (n : Int)] w (Made w n) := by
  obtain ⟨i0, hi, hz0, hz1, hz2⟩ := info_parts info8
  have hm : ((n : Int) % 1024 != 0) = false := by rw [bne_eq_false_iff_eq]; omega
  clear h2
  go_enter Tryd.func11, Tryd.ntmps11
  go_wp2_with (at_make; refine wpList_make_bytes rfl _ _ 84 rfl 5 i0 Tryd.underlying84 hi hz0 hz1 hz2 _ _ _ n rfl rfl rfl ?_ ?_; omega; intro w1 hr hu hs)
  have S1 := Lib.hid hs; have R1 := Lib.hid hr; have U1 := Lib.hid hu
  clear hs hr hu
  go_wp2
  go_ret2
  refine ⟨w.heap.size + 1, w.heap.size, rfl, ⟨?_, R1.out.alloc _, MemMath.byt_rep (by decide), by rw [MemMath.length_rep]; exact h1⟩, by omega, Nat.le_refl _, U1.out.alloc _⟩
  rw [MemMath.length_rep, ← S1.out]
  exact Blk.new w1 _ _

/-! ### Load -/
theorem load_ok {w : World} {p g : Nat} {L : List Nat} (h : IsMem w p g L) (addr n : Nat) (h4 : W4 n) (hn : addr + n ≤ L.length) :
    Calls Tryd.prog 83 #[.pointer (some ⟨p, 0, none⟩), .int .u64 (addr : Int), .int .i64 (n : Int)] w fun e w' => e = .returned (.tuple #[.int .u64 ((MemMath.val (MemMath.part L addr n) : Nat) : Int), .int .i64 0]) ∧ w = w' := by
  have HW := Lib.hid (word_ok h addr n 0 h4 (Nat.pow_pos (by decide)) (by decide) hn)
  have h8 : n ≤ 8 := by rcases h4 with rfl | rfl | rfl | rfl <;> decide
  have hl := MemMath.length_part hn
  have hnum := number_any w g addr (L.length - addr) (MemMath.part L addr n) (fun j hj => by
    rw [hl] at hj
    rw [h.row.cell _ (by omega), MemMath.getD_part hj]) (by omega) (h.byt.part _ _)
  rw [hl] at hnum
  have HN := Lib.hid hnum
  clear h h4 hl hnum
  go_enter Tryd.func83, Tryd.ntmps83
  go_wp2_with (first | (go_at_call 95; refine HW.out.mono ?_; rintro e w' ⟨rfl, rfl⟩) | (go_at_call 96; refine HN.out.mono ?_; rintro e w' ⟨rfl, rfl⟩))
  go_ret2
  exact ⟨rfl, rfl⟩
theorem load_out {w : World} {p g : Nat} {L : List Nat} (h : IsMem w p g L) (addr n : Nat) (h4 : W4 n) (hn : L.length < addr + n) :
    Calls Tryd.prog 83 #[.pointer (some ⟨p, 0, none⟩), .int .u64 (addr : Int), .int .i64 (n : Int)] w fun e w' => e = .returned (.tuple #[.int .u64 0, .int .i64 3]) ∧ w = w' := by
  have HW := Lib.hid (word_out h addr n 0 h4 (Nat.pow_pos (by decide)) (by decide) hn)
  clear h h4
  go_enter Tryd.func83, Tryd.ntmps83
  go_wp2_with (go_at_call 95; refine HW.out.mono ?_; rintro e w' ⟨rfl, rfl⟩)
  go_ret2
  exact ⟨rfl, rfl⟩

/-! ### Store -/
/-- It answered OK, and the memory holds M. -/
def Wrote (w : World) (p g : Nat) (M : List Nat) (v : Value) (e : Ending) (w' : World) : Prop := e = .returned v ∧ IsMem w' p g M ∧ Upd (fun k => k = g) w w'
theorem store_ok {w : World} {p g : Nat} {L : List Nat} (h : IsMem w p g L) (addr n x : Nat) (h4 : W4 n) (hx : x < 256 ^ n) (hx' : x ≤ 18446744073709551615) (hn : addr + n ≤ L.length) :
    Calls Tryd.prog 90 #[.pointer (some ⟨p, 0, none⟩), .int .u64 (addr : Int), .int .i64 (n : Int), .int .u64 (x : Int)] w (Wrote w p g (splice L addr (MemMath.le n x)) (.int .i64 0)) := by
  have HW := Lib.hid (word_ok h addr n x h4 hx hx' hn)
  have h8 : n ≤ 8 := by rcases h4 with rfl | rfl | rfl | rfl <;> decide
  have HL := Lib.hid (lay_any w g addr n (L.length - addr) L x h.row hn h8 hx' h.big)
  have H := Lib.hid h
  clear h h4 hx
  go_enter Tryd.func90, Tryd.ntmps90
  go_wp2_with (first | (go_at_call 95; refine HW.out.mono ?_; rintro e w' ⟨rfl, rfl⟩) | (go_at_call 109; refine HL.out.mono ?_; rintro e w1 ⟨rfl, hr, hu⟩))
  go_ret
  exact ⟨rfl, H.out.written hu hr (MemMath.length_splice' (by rw [MemMath.length_le]; exact hn)) (H.out.byt.splice (MemMath.byt_le _ _) _), hu⟩

/-! ### Get -/
def Got (w : World) (l : List Nat) (e : Ending) (w' : World) : Prop := ∃ b z, e = .returned (.tuple #[.slice (some ⟨b, 0, none⟩) l.length (l.length + z), .int .i64 0]) ∧ Bytes w' 5 b (l ++ List.replicate z 0) ∧ w.heap.size ≤ b ∧ Upd (fun _ => False) w w'
def Cloned (w : World) (l : List Nat) (e : Ending) (w' : World) : Prop := ∃ b z, e = .returned (.slice (some ⟨b, 0, none⟩) l.length (l.length + z)) ∧ Bytes w' 5 b (l ++ List.replicate z 0) ∧ w.heap.size ≤ b ∧ Upd (fun _ => False) w w'
theorem clone_any (w : World) (ad : Addr) (n c : Nat) (l : List Nat) (h : Reads8 w (.slice (some ad) n c) l) (hl : l.length ≤ 1048576) :
    Calls Tryd.prog 73 #[.slice (some ad) n c] w (Cloned w l) := by
  obtain ⟨i0, hi, hz0, hz1, hz2⟩ := info_parts info8
  have H := Lib.hid h; clear h
  have hnil := fun (w : World) => Lib.run_eql_slice_nil (P := Tryd.prog) w 84 5 (some ad) n c 0 0 Tryd.underlying84
  go_enter Tryd.func73, Tryd.ntmps73
  go_wp2_with (at_builtin; refine wpList_append_fresh rfl _ _ 84 rfl 5 i0 Tryd.underlying84 hi hz0 hz1 hz2 w.heap.size _ l rfl rfl (Blk.new w _ _) (H.out.below (Nat.le_refl _) ((Below.refl _ _).alloc (Nat.le_refl _) _)) (by omega) ?_; intro b z w2 hr hb hu)
  go_ret
  exact ⟨b, z, rfl, hr, by rcases hb with rfl | hb; exact Nat.le_refl _; simp at hb; omega, ((Upd.refl _ _).alloc _).trans hu⟩
theorem get_ok {w : World} {p g : Nat} {L : List Nat} (h : IsMem w p g L) (addr n : Nat) (hn : addr + n ≤ L.length) :
    Calls Tryd.prog 40 #[.pointer (some ⟨p, 0, none⟩), .int .u64 (addr : Int), .int .u64 (n : Int)] w (Got w (MemMath.part L addr n)) := by
  have hb := h.big
  obtain ⟨o, ho, hp⟩ := part_ok h addr n hn
  have HP := Lib.hid hp
  have HC := Lib.hid (clone_any w ⟨g, o, none⟩ n (L.length - addr) (MemMath.part L addr n) (h.row.readsIf addr o n _ hn ho) (by rw [MemMath.length_part hn]; omega))
  clear hp h ho
  go_enter Tryd.func40, Tryd.ntmps40
  go_wp2_with (first | (go_at_call 72; refine HP.out.mono ?_; rintro e w' ⟨rfl, rfl⟩) | (go_at_call 73; refine HC.out.mono ?_; rintro e w1 ⟨b, z, rfl, hr, hb1, hu⟩))
  go_ret2
  exact ⟨b, z, rfl, hr, hb1, hu⟩
theorem get_out {w : World} {p g : Nat} {L : List Nat} (h : IsMem w p g L) (addr n : Nat) (hn : L.length < addr + n) :
    Calls Tryd.prog 40 #[.pointer (some ⟨p, 0, none⟩), .int .u64 (addr : Int), .int .u64 (n : Int)] w fun e w' => e = .returned (.tuple #[.slice none 0 0, .int .i64 3]) ∧ w = w' := by
  have HP := Lib.hid (part_out h addr n hn)
  clear h
  go_enter Tryd.func40, Tryd.ntmps40
  go_wp2_with (go_at_call 72; refine HP.out.mono ?_; rintro e w' ⟨rfl, rfl⟩)
  go_ret2
  exact ⟨rfl, rfl⟩

/-! ### Put -/
/-! ### Copy -/
/-! ### Cas -/
end Go.Proofs.YtomepdgddpajoaaDoor
