/- Memory (layer 2): New, Load, Store, Get, Put, Copy, Cas: contracts. -/
import Derived.Test.YtkgddefahfbjaaaMem1
namespace Go.Proofs.Ytkgddefahfbjaaa
open Go.RowKit
set_option linter.unusedVariables false

/-! ### New -/
def Made (w : World) (n : Nat) (e : Ending) (w' : World) : Prop := ∃ p g, e = .returned (.tuple #[.pointer (some ⟨p, 0, none⟩), .int .i64 0]) ∧ IsMem w' p g (MemMath.rep n 0) ∧ w.heap.size ≤ p ∧ w.heap.size ≤ g ∧ Upd (fun _ => False) w w'
theorem new_ok (n : Nat) (h0 : 1024 ≤ n) (h1 : n ≤ 1048576) (h2 : n % 1024 = 0) (w : World) :
    Calls Try.prog 10 #[.int .u64 (n : Int)] w (Made w n) := by
  obtain ⟨i0, hi, hz0, hz1, hz2⟩ := info_parts info8
  have hm : ((n : Int) % 1024 != 0) = false := by rw [bne_eq_false_iff_eq]; omega
  clear h2
  go_enter Try.func10, Try.ntmps10
  go_wp2_with (at_make; refine wpList_make_bytes rfl _ _ 36 rfl 5 i0 Try.underlying36 hi hz0 hz1 hz2 _ _ _ n rfl rfl rfl ?_ ?_; omega; intro w1 hr hu hs)
  have S1 := Lib.hid hs; have R1 := Lib.hid hr; have U1 := Lib.hid hu
  clear hs hr hu
  go_wp2
  go_ret2
  refine ⟨w.heap.size + 1, w.heap.size, rfl, ⟨?_, R1.out.alloc _, MemMath.byt_rep (by decide), by rw [MemMath.length_rep]; exact h1⟩, by omega, Nat.le_refl _, U1.out.alloc _⟩
  rw [MemMath.length_rep, ← S1.out]
  exact Blk.new w1 _ _

/-! ### Load -/
theorem load_ok {w : World} {p g : Nat} {L : List Nat} (h : IsMem w p g L) (addr n : Nat) (h4 : W4 n) (hn : addr + n ≤ L.length) :
    Calls Try.prog 13 #[.pointer (some ⟨p, 0, none⟩), .int .u64 (addr : Int), .int .i64 (n : Int)] w fun e w' => e = .returned (.tuple #[.int .u64 ((MemMath.val (MemMath.part L addr n) : Nat) : Int), .int .i64 0]) ∧ w = w' := by
  have HW := Lib.hid (word_ok h addr n 0 h4 (Nat.pow_pos (by decide)) (by decide) hn)
  have h8 : n ≤ 8 := by rcases h4 with rfl | rfl | rfl | rfl <;> decide
  have hl := MemMath.length_part hn
  have hnum := number_any w g addr (L.length - addr) (MemMath.part L addr n) (fun j hj => by
    rw [hl] at hj
    rw [h.row.cell _ (by omega), MemMath.getD_part hj]) (by omega) (h.byt.part _ _)
  rw [hl] at hnum
  have HN := Lib.hid hnum
  clear h h4 hl hnum
  go_enter Try.func13, Try.ntmps13
  go_wp2_with (first | (go_at_call 20; refine HW.out.mono ?_; rintro e w' ⟨rfl, rfl⟩) | (go_at_call 22; refine HN.out.mono ?_; rintro e w' ⟨rfl, rfl⟩))
  go_ret2
  exact ⟨rfl, rfl⟩
theorem load_out {w : World} {p g : Nat} {L : List Nat} (h : IsMem w p g L) (addr n : Nat) (h4 : W4 n) (hn : L.length < addr + n) :
    Calls Try.prog 13 #[.pointer (some ⟨p, 0, none⟩), .int .u64 (addr : Int), .int .i64 (n : Int)] w fun e w' => e = .returned (.tuple #[.int .u64 0, .int .i64 3]) ∧ w = w' := by
  have HW := Lib.hid (word_out h addr n 0 h4 (Nat.pow_pos (by decide)) (by decide) hn)
  clear h h4
  go_enter Try.func13, Try.ntmps13
  go_wp2_with (go_at_call 20; refine HW.out.mono ?_; rintro e w' ⟨rfl, rfl⟩)
  go_ret2
  exact ⟨rfl, rfl⟩

/-! ### Store -/
/-- It answered OK, and the memory holds M. -/
def Wrote (w : World) (p g : Nat) (M : List Nat) (v : Value) (e : Ending) (w' : World) : Prop := e = .returned v ∧ IsMem w' p g M ∧ Upd (fun k => k = g) w w'
theorem store_ok {w : World} {p g : Nat} {L : List Nat} (h : IsMem w p g L) (addr n x : Nat) (h4 : W4 n) (hx : x < 256 ^ n) (hx' : x ≤ 18446744073709551615) (hn : addr + n ≤ L.length) :
    Calls Try.prog 12 #[.pointer (some ⟨p, 0, none⟩), .int .u64 (addr : Int), .int .i64 (n : Int), .int .u64 (x : Int)] w (Wrote w p g (splice L addr (MemMath.le n x)) (.int .i64 0)) := by
  have HW := Lib.hid (word_ok h addr n x h4 hx hx' hn)
  have h8 : n ≤ 8 := by rcases h4 with rfl | rfl | rfl | rfl <;> decide
  have HL := Lib.hid (lay_any w g addr n (L.length - addr) L x h.row hn h8 hx' h.big)
  have H := Lib.hid h
  clear h h4 hx
  go_enter Try.func12, Try.ntmps12
  go_wp2_with (first | (go_at_call 20; refine HW.out.mono ?_; rintro e w' ⟨rfl, rfl⟩) | (go_at_call 21; refine HL.out.mono ?_; rintro e w1 ⟨rfl, hr, hu⟩))
  go_ret
  exact ⟨rfl, H.out.written hu hr (MemMath.length_splice' (by rw [MemMath.length_le]; exact hn)) (H.out.byt.splice (MemMath.byt_le _ _) _), hu⟩

/-! ### Get -/
def Got (w : World) (l : List Nat) (e : Ending) (w' : World) : Prop := ∃ b z, e = .returned (.tuple #[.slice (some ⟨b, 0, none⟩) l.length (l.length + z), .int .i64 0]) ∧ Bytes w' 5 b (l ++ List.replicate z 0) ∧ w.heap.size ≤ b ∧ Upd (fun _ => False) w w'
def Cloned (w : World) (l : List Nat) (e : Ending) (w' : World) : Prop := ∃ b z, e = .returned (.slice (some ⟨b, 0, none⟩) l.length (l.length + z)) ∧ Bytes w' 5 b (l ++ List.replicate z 0) ∧ w.heap.size ≤ b ∧ Upd (fun _ => False) w w'
theorem clone_any (w : World) (ad : Addr) (n c : Nat) (l : List Nat) (h : Reads8 w (.slice (some ad) n c) l) (hl : l.length ≤ 1048576) :
    Calls Try.prog 23 #[.slice (some ad) n c] w (Cloned w l) := by
  obtain ⟨i0, hi, hz0, hz1, hz2⟩ := info_parts info8
  have H := Lib.hid h; clear h
  have hnil := fun (w : World) => Lib.run_eql_slice_nil (P := Try.prog) w 36 5 (some ad) n c 0 0 Try.underlying36
  go_enter Try.func23, Try.ntmps23
  go_wp2_with (at_builtin; refine wpList_append_fresh rfl _ _ 36 rfl 5 i0 Try.underlying36 hi hz0 hz1 hz2 w.heap.size _ l rfl rfl (Blk.new w _ _) (H.out.below (Nat.le_refl _) ((Below.refl _ _).alloc (Nat.le_refl _) _)) (by omega) ?_; intro b z w2 hr hb hu)
  go_ret
  exact ⟨b, z, rfl, hr, by rcases hb with rfl | hb; exact Nat.le_refl _; simp at hb; omega, ((Upd.refl _ _).alloc _).trans hu⟩
theorem get_ok {w : World} {p g : Nat} {L : List Nat} (h : IsMem w p g L) (addr n : Nat) (hn : addr + n ≤ L.length) :
    Calls Try.prog 14 #[.pointer (some ⟨p, 0, none⟩), .int .u64 (addr : Int), .int .u64 (n : Int)] w (Got w (MemMath.part L addr n)) := by
  have hb := h.big
  obtain ⟨o, ho, hp⟩ := part_ok h addr n hn
  have HP := Lib.hid hp
  have HC := Lib.hid (clone_any w ⟨g, o, none⟩ n (L.length - addr) (MemMath.part L addr n) (h.row.readsIf addr o n _ hn ho) (by rw [MemMath.length_part hn]; omega))
  clear hp h ho
  go_enter Try.func14, Try.ntmps14
  go_wp2_with (first | (go_at_call 19; refine HP.out.mono ?_; rintro e w' ⟨rfl, rfl⟩) | (go_at_call 23; refine HC.out.mono ?_; rintro e w1 ⟨b, z, rfl, hr, hb1, hu⟩))
  go_ret2
  exact ⟨b, z, rfl, hr, hb1, hu⟩
theorem get_out {w : World} {p g : Nat} {L : List Nat} (h : IsMem w p g L) (addr n : Nat) (hn : L.length < addr + n) :
    Calls Try.prog 14 #[.pointer (some ⟨p, 0, none⟩), .int .u64 (addr : Int), .int .u64 (n : Int)] w fun e w' => e = .returned (.tuple #[.slice none 0 0, .int .i64 3]) ∧ w = w' := by
  have HP := Lib.hid (part_out h addr n hn)
  clear h
  go_enter Try.func14, Try.ntmps14
  go_wp2_with (go_at_call 19; refine HP.out.mono ?_; rintro e w' ⟨rfl, rfl⟩)
  go_ret2
  exact ⟨rfl, rfl⟩

/-! ### Put -/
theorem put_ok {w : World} {p g : Nat} {L : List Nat} (h : IsMem w p g L) (addr : Nat) (a : Option Addr) (c : Nat) (l : List Nat) (hl : Reads8 w (.slice a l.length c) l) (hb : MemMath.Byt l) (hn : addr + l.length ≤ L.length) :
    Calls Try.prog 16 #[.pointer (some ⟨p, 0, none⟩), .int .u64 (addr : Int), .slice a l.length c] w (Wrote w p g (splice L addr l) (.int .i64 0)) := by
  have hbig := h.big
  obtain ⟨o, ho, hp⟩ := part_ok h addr l.length hn
  have HP := Lib.hid hp
  have H := Lib.hid h; have HR := Lib.hid hl; have HB := Lib.hid hb; have HO := Lib.hid ho
  clear hp h ho hl hb
  go_enter Try.func16, Try.ntmps16
  go_wp2_with (first | (go_at_call 19; refine HP.out.mono ?_; rintro e w' ⟨rfl, rfl⟩) | (refine wpList_copy_bytes rfl (.tmp 21) (.tmp 22) 36 36 rfl 5 Try.underlying36 info8s _ _ _ _ _ _ rfl rfl l L g addr H.out.row HR.out l.length (Nat.min_self _).symm (fun h => by rw [HO.out (by omega)]) hn ?_; intro w1 hr hu))
  have HH := Lib.hid (And.intro hr hu)
  clear hr hu
  go_wp2
  go_ret
  have hr := HH.out.1
  rw [List.take_length] at hr
  exact ⟨rfl, H.out.written HH.out.2 hr (MemMath.length_splice' hn) (H.out.byt.splice HB.out _), HH.out.2⟩
theorem put_out {w : World} {p g : Nat} {L : List Nat} (h : IsMem w p g L) (addr : Nat) (a : Option Addr) (n c : Nat) (hl : n ≤ 9223372036854775807) (hn : L.length < addr + n) :
    Calls Try.prog 16 #[.pointer (some ⟨p, 0, none⟩), .int .u64 (addr : Int), .slice a n c] w fun e w' => e = .returned (.int .i64 3) ∧ w = w' := by
  have HP := Lib.hid (part_out h addr n hn)
  clear h
  go_enter Try.func16, Try.ntmps16
  go_wp2_with (go_at_call 19; refine HP.out.mono ?_; rintro e w' ⟨rfl, rfl⟩)
  go_ret
  exact ⟨rfl, rfl⟩
theorem put_nil (w : World) (addr : Int) :
    Calls Try.prog 16 #[.pointer none, .int .u64 addr, .slice none 0 0] w fun e w' => e = .returned (.int .i64 1) ∧ w = w' := by
  go_enter Try.func16, Try.ntmps16
  go_wp2_with (go_at_call 19; refine (part_nil _ _ _).mono ?_; rintro e w' ⟨rfl, rfl⟩)
  go_ret
  exact ⟨rfl, rfl⟩

/-! ### Copy -/
theorem copy_ok {w : World} {p g : Nat} {L : List Nat} (h : IsMem w p g L) (t f n : Nat) (ht : t + n ≤ L.length) (hf : f + n ≤ L.length) :
    Calls Try.prog 15 #[.pointer (some ⟨p, 0, none⟩), .int .u64 (t : Int), .int .u64 (f : Int), .int .u64 (n : Int)] w (Wrote w p g (splice L t (MemMath.part L f n)) (.int .i64 0)) := by
  have hbig := h.big
  obtain ⟨o, ho, hp⟩ := part_ok h t n ht
  obtain ⟨o2, ho2, hp2⟩ := part_ok h f n hf
  have HP := Lib.hid hp; have HP2 := Lib.hid hp2
  have H := Lib.hid h; have HO := Lib.hid ho
  have HR := Lib.hid (h.row.readsIf f o2 n (L.length - f) hf ho2)
  have HM := Lib.hid (MemMath.length_part hf)
  clear hp hp2 h ho ho2
  go_enter Try.func15, Try.ntmps15
  go_wp2_with fail
  refine HP.out.mono ?_; rintro e w' ⟨rfl, rfl⟩
  go_wp2_with fail
  refine HP2.out.mono ?_; rintro e w' ⟨rfl, rfl⟩
  go_wp2_with (refine wpList_copy_bytes rfl (.tmp 32) (.tmp 33) 36 36 rfl 5 Try.underlying36 info8s _ _ _ _ _ _ rfl rfl (MemMath.part L f n) L g t H.out.row HR.out n (by rw [HM.out, Nat.min_self]) (fun h => by rw [HO.out (by omega)]) ht ?_; intro w1 hr hu)
  have HH := Lib.hid (And.intro hr hu)
  clear hr hu
  go_wp2
  go_ret
  have hr := HH.out.1
  rw [List.take_of_length_le (by rw [HM.out]; exact Nat.le_refl _)] at hr
  exact ⟨rfl, H.out.written HH.out.2 hr (MemMath.length_splice' (by rw [HM.out]; exact ht)) (H.out.byt.splice (H.out.byt.part _ _) _), HH.out.2⟩
theorem copy_out1 {w : World} {p g : Nat} {L : List Nat} (h : IsMem w p g L) (t f n : Nat) (ht : L.length < t + n) :
    Calls Try.prog 15 #[.pointer (some ⟨p, 0, none⟩), .int .u64 (t : Int), .int .u64 (f : Int), .int .u64 (n : Int)] w fun e w' => e = .returned (.int .i64 3) ∧ w = w' := by
  have HP := Lib.hid (part_out h t n ht)
  clear h
  go_enter Try.func15, Try.ntmps15
  go_wp2_with fail
  refine HP.out.mono ?_; rintro e w' ⟨rfl, rfl⟩
  go_wp2
  go_ret
  exact ⟨rfl, rfl⟩
theorem copy_out2 {w : World} {p g : Nat} {L : List Nat} (h : IsMem w p g L) (t f n : Nat) (ht : t + n ≤ L.length) (hf : L.length < f + n) :
    Calls Try.prog 15 #[.pointer (some ⟨p, 0, none⟩), .int .u64 (t : Int), .int .u64 (f : Int), .int .u64 (n : Int)] w fun e w' => e = .returned (.int .i64 3) ∧ w = w' := by
  obtain ⟨o, ho, hp⟩ := part_ok h t n ht
  have HP := Lib.hid hp
  have HP2 := Lib.hid (part_out h f n hf)
  clear h hp ho
  go_enter Try.func15, Try.ntmps15
  go_wp2_with fail
  refine HP.out.mono ?_; rintro e w' ⟨rfl, rfl⟩
  go_wp2_with fail
  refine HP2.out.mono ?_; rintro e w' ⟨rfl, rfl⟩
  go_wp2
  go_ret
  exact ⟨rfl, rfl⟩

/-! ### Cas -/
theorem cas_yes {w : World} {p g : Nat} {L : List Nat} (h : IsMem w p g L) (addr old x : Nat) (hn : addr + 8 ≤ L.length) (hx : x ≤ 18446744073709551615) (ho : MemMath.val (MemMath.part L addr 8) = old) :
    Calls Try.prog 18 #[.pointer (some ⟨p, 0, none⟩), .int .u64 (addr : Int), .int .u64 (old : Int), .int .u64 (x : Int)] w (Wrote w p g (splice L addr (MemMath.le 8 x)) (.tuple #[.bool true, .int .i64 0])) := by
  obtain ⟨o, ho1, hp⟩ := part_ok h addr 8 hn
  obtain rfl := ho1 (by decide)
  have HP := Lib.hid hp
  have hl := MemMath.length_part hn
  have hnum := number_any w g o (L.length - o) (MemMath.part L o 8) (fun j hj => by
    rw [hl] at hj
    rw [h.row.cell _ (by omega), MemMath.getD_part hj]) (by omega) (h.byt.part _ _)
  rw [hl, ho] at hnum
  have HN := Lib.hid hnum
  have HL := Lib.hid (lay_any w g o 8 (L.length - o) L x h.row hn (by decide) hx h.big)
  have H := Lib.hid h
  have ht : ((old : Int) != (old : Int)) = false := by simp
  clear h hl hnum hp ho1 ho
  go_enter Try.func18, Try.ntmps18
  go_wp2_with (first | (go_at_call 19; refine HP.out.mono ?_; rintro e w' ⟨rfl, rfl⟩) | (go_at_call 22; refine HN.out.mono ?_; rintro e w' ⟨rfl, rfl⟩) | (go_at_call 21; refine HL.out.mono ?_; rintro e w1 ⟨rfl, hr, hu⟩))
  go_ret2
  exact ⟨rfl, H.out.written hu hr (MemMath.length_splice' (by rw [MemMath.length_le]; exact hn)) (H.out.byt.splice (MemMath.byt_le _ _) _), hu⟩
theorem cas_no {w : World} {p g : Nat} {L : List Nat} (h : IsMem w p g L) (addr old x : Nat) (hn : addr + 8 ≤ L.length) (ho : MemMath.val (MemMath.part L addr 8) ≠ old) :
    Calls Try.prog 18 #[.pointer (some ⟨p, 0, none⟩), .int .u64 (addr : Int), .int .u64 (old : Int), .int .u64 (x : Int)] w fun e w' => e = .returned (.tuple #[.bool false, .int .i64 0]) ∧ w = w' := by
  obtain ⟨o, ho1, hp⟩ := part_ok h addr 8 hn
  obtain rfl := ho1 (by decide)
  have HP := Lib.hid hp
  have hl := MemMath.length_part hn
  have hnum := number_any w g o (L.length - o) (MemMath.part L o 8) (fun j hj => by
    rw [hl] at hj
    rw [h.row.cell _ (by omega), MemMath.getD_part hj]) (by omega) (h.byt.part _ _)
  rw [hl] at hnum
  obtain ⟨y, hy⟩ : ∃ y, MemMath.val (MemMath.part L o 8) = y := ⟨_, rfl⟩
  rw [hy] at hnum ho
  have HN := Lib.hid hnum
  have ht : ((y : Int) != (old : Int)) = true := by rw [bne_iff_ne]; omega
  clear h hl hnum hp ho1 ho hy
  go_enter Try.func18, Try.ntmps18
  go_wp2_with (first | (go_at_call 19; refine HP.out.mono ?_; rintro e w' ⟨rfl, rfl⟩) | (go_at_call 22; refine HN.out.mono ?_; rintro e w' ⟨rfl, rfl⟩))
  go_ret2
  exact ⟨rfl, rfl⟩

/-- Either way. -/
theorem cas_any {w : World} {p g : Nat} {L : List Nat} (h : IsMem w p g L) (addr old x : Nat) (hn : addr + 8 ≤ L.length) (hx : x ≤ 18446744073709551615) (b : Bool) (hb : decide (MemMath.val (MemMath.part L addr 8) = old) = b) :
    Calls Try.prog 18 #[.pointer (some ⟨p, 0, none⟩), .int .u64 (addr : Int), .int .u64 (old : Int), .int .u64 (x : Int)] w (Wrote w p g (bif b then MemMath.put8 L addr x else L) (.tuple #[.bool b, .int .i64 0])) := by
  by_cases ho : MemMath.val (MemMath.part L addr 8) = old
  · rw [decide_eq_true ho] at hb
    subst hb
    exact cas_yes h addr old x hn hx ho
  · rw [decide_eq_false ho] at hb
    subst hb
    refine (cas_no h addr old x hn ho).mono ?_
    rintro e w' ⟨rfl, rfl⟩
    exact ⟨rfl, h, Upd.refl _ _⟩

end Go.Proofs.Ytkgddefahfbjaaa
