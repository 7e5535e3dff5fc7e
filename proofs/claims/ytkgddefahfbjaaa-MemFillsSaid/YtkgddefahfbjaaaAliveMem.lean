/- The laws' 'alive' of layer 2: it answers true, and makes blocks of its own alone. -/
import Derived.Test.YtkgddefahfbjaaaMem3
import Derived.Below
namespace Go.Proofs.Ytkgddefahfbjaaa
open Go.RowKit
set_option linter.unusedVariables false

theorem IsMem.alloc {w : World} {p g : Nat} {L : List Nat} (h : IsMem w p g L) (o : Obj) : IsMem (w.alloc o) p g L := ⟨h.head.alloc o, h.row.alloc o, h.byt, h.big⟩
theorem IsMem.drew {w : World} {p g : Nat} {L : List Nat} (h : IsMem w p g L) : IsMem w.drew p g L := ⟨h.head.drew, h.row.drew, h.byt, h.big⟩
theorem Bytes.new (w : World) (e : TypeId) (l : List Nat) : Bytes (w.alloc (.cells (l.map n8).toArray e)) e w.heap.size l := Blk.new w _ _
theorem Bytes.newAt (w : World) (e : TypeId) (l : List Nat) (g : Nat) (hg : g = w.heap.size) : Bytes (w.alloc (.cells (l.map n8).toArray e)) e g l := by subst hg; exact Blk.new w _ _
theorem Bytes.all {w : World} {e : TypeId} {g : Nat} {l : List Nat} (h : Bytes w e g l) (cap : Nat) : Reads8 w (.slice (some ⟨g, 0, none⟩) l.length cap) l := by
  have := h.reads 0 l.length cap (by omega)
  rwa [MemMath.part_all] at this
theorem Bytes.front {w : World} {e : TypeId} {g : Nat} {l m : List Nat} (h : Bytes w e g (l ++ m)) (cap : Nat) : Reads8 w (.slice (some ⟨g, 0, none⟩) l.length cap) l := by
  have := h.reads 0 l.length cap (by simp)
  rwa [show MemMath.part (l ++ m) 0 l.length = l by simp [MemMath.part]] at this
theorem below_false {w w' : World} {B : Nat} (h : Upd (fun _ => False) w w') (hB : B ≤ w.heap.size) : Below B w w' := h.below (fun k x => x.elim) hB
theorem below_one {w w' : World} {B g : Nat} (h : Upd (fun k => k = g) w w') (hB : B ≤ w.heap.size) (hg : B ≤ g) : Below B w w' := h.below (fun k x => by omega) hB

def L1 : List Nat := splice (MemMath.rep 1024 0) 8 (MemMath.le 2 258)
theorem len1 : L1.length = 1024 := by
  unfold L1
  rw [MemMath.length_splice' (by rw [MemMath.length_le, MemMath.length_rep]; decide), MemMath.length_rep]
theorem part1 : MemMath.part L1 8 2 = [2, 1] := by
  unfold L1
  have := MemMath.part_splice (L := MemMath.rep 1024 0) (cs := MemMath.le 2 258) (o := 8) (by rw [MemMath.length_le, MemMath.length_rep]; decide)
  rw [MemMath.length_le] at this
  rw [this]
  decide
def L2 : List Nat := splice L1 0 (MemMath.fill 5 [1, 2])
theorem len2 : L2.length = 1024 := by
  unfold L2
  rw [MemMath.length_splice' (by rw [MemMath.length_fill, len1]; decide), len1]
theorem part2 : MemMath.part L2 0 5 = [1, 2, 1, 2, 1] := by
  unfold L2
  have := MemMath.part_splice (L := L1) (cs := MemMath.fill 5 [1, 2]) (o := 0) (by rw [MemMath.length_fill, len1]; decide)
  rw [MemMath.length_fill] at this
  rw [this]
  decide

set_option maxHeartbeats 400000 in
theorem alive_any (w : World) : Calls Try.prog 9 #[] w fun e w' => e = .returned (.bool true) ∧ Below w.heap.size w w' := by
  go_enter Try.func9, Try.ntmps9
  go_wp2_with fail
  refine (new_ok 1024 (by decide) (by decide) (by decide) _).mono ?_; rintro e w1 ⟨p, g, rfl, hm, hp, hg, hu⟩
  have B1 := Lib.hid (below_false hu (Nat.le_refl _)); have M1 := Lib.hid hm
  have s1 := B1.out.size
  clear hu hm
  go_wp2_with fail
  refine (store_ok M1.out 8 2 258 (.inr (.inl rfl)) (by decide) (by decide) (by rw [MemMath.length_rep]; decide)).mono ?_; rintro e w2 ⟨rfl, hm, hu⟩
  have B2 := Lib.hid (B1.out.trans (below_one hu s1 hg)); have M2 : Hid (IsMem w2 p g L1) := Lib.hid hm
  have s2 := B2.out.size
  clear hu hm
  go_wp2_with fail
  refine (get_ok M2.out 8 2 (by rw [len1]; decide)).mono ?_; rw [part1]; rintro e w3 ⟨b, z, rfl, hr, hb, hu⟩
  have B3 := Lib.hid (B2.out.trans (below_false hu s2)); have M3 := Lib.hid (M2.out.upd hu id id); have R3 := Lib.hid hr
  have s3 := B3.out.size
  have hbg : Hid (b ≠ g) := Lib.hid (by have := M2.out.row.lt; omega)
  clear hu hr
  go_wp2_with fail
  refine (fill_some (M3.out.alloc _) 0 5 _ _ [1, 2] ((Bytes.new w3 5 [1, 2]).all 2) (.of (by decide)) (by decide) (by decide) (by rw [len1]; decide)).mono ?_; rintro e w4 ⟨rfl, hm, hu⟩
  have B4 := Lib.hid ((B3.out.alloc s3 _).trans (below_one hu (Nat.le_trans s3 (by simp)) hg)); have M4 : Hid (IsMem w4 p g L2) := Lib.hid hm
  have R4 := Lib.hid ((R3.out.alloc _).upd hu hbg.out)
  have s4 := B4.out.size
  clear hu hm
  go_wp2_with fail
  refine (get_ok M4.out 0 5 (by rw [len2]; decide)).mono ?_; rw [part2]; rintro e w5 ⟨b', z', rfl, hr, hb', hu⟩
  have B5 := Lib.hid (B4.out.trans (below_false hu s4)); have R5 := Lib.hid hr; have Q5 := Lib.hid (R4.out.upd hu id)
  have s5 := B5.out.size
  clear hu hr
  go_wp2_with fail
  refine (same_any _ _ _ _ _ _ _ [2, 1] [2, 1] ((Q5.out.alloc _).front _) ((Bytes.new w5 5 [2, 1]).all 2) (.of (by decide)) (.of (by decide))).mono ?_; rintro e w' ⟨rfl, rfl⟩
  go_wp2_with fail
  refine (same_any _ _ _ _ _ _ _ [1, 2, 1, 2, 1] [1, 2, 1, 2, 1] (((R5.out.alloc _).alloc _).front _) ((Bytes.newAt (w5.alloc _) 5 [1, 2, 1, 2, 1] (w5.heap.size + 1) (by simp)).all 5) (.of (by decide)) (.of (by decide))).mono ?_; rintro e w' ⟨rfl, rfl⟩
  go_wp2_with (go_at_call 16; refine (put_nil _ _).mono ?_; rintro e w' ⟨rfl, rfl⟩)
  go_ret
  exact ⟨rfl, (B5.out.alloc s5 _).alloc (Nat.le_trans s5 (by simp)) _⟩
end Go.Proofs.Ytkgddefahfbjaaa
