/- Memory (layer 2): Size, part, mayHold, word: contracts. -/
import Derived.Test.YtomepdgddpajoaaDoorBlk
import Derived.Test.YtomepdgddpajoaaDoorRows
import Derived.WalkKit
import Derived.WalkSpells
import Derived.WalkLawsBesides
import Derived.Outline
import Derived.Lib.Hide
import Derived.Deep.QuietTactic
import Derived.BigQuiet
namespace Go.Proofs.YtomepdgddpajoaaDoor
open Go.RowKit
set_option linter.unusedVariables false
set_option maxRecDepth 100000

/-- The memory at block p: its bytes lie in block g. -/
structure IsMem (w : World) (p g : Nat) (L : List Nat) : Prop where
  head : Blk w p 93 #[.slice (some ⟨g, 0, none⟩) L.length L.length]
  row : Bytes w 5 g L
  byt : MemMath.Byt L
  big : L.length ≤ 1048576
theorem IsMem.upd {S : Nat → Prop} {w w' : World} {p g : Nat} {L : List Nat} (h : IsMem w p g L) (u : Upd S w w') (hp : ¬ S p) (hg : ¬ S g) : IsMem w' p g L := ⟨h.head.upd u hp, h.row.upd u hg, h.byt, h.big⟩
theorem IsMem.ne {w : World} {p g : Nat} {L : List Nat} (h : IsMem w p g L) : p ≠ g := Blk.ne h.head h.row (by decide)
/-- Behind a write into its bytes. -/
theorem IsMem.written {w w' : World} {p g : Nat} {L M : List Nat} (h : IsMem w p g L) (u : Upd (fun k => k = g) w w') (hr : Bytes w' 5 g M) (hl : M.length = L.length) (hb : MemMath.Byt M) : IsMem w' p g M :=
  ⟨by rw [hl]; exact h.head.upd u h.ne, hr, hb, by rw [hl]; exact h.big⟩

def Mp (p : Nat) : Value := .pointer (some ⟨p, 0, none⟩)
theorem size8 (w : World) : (sizeOf (Tryd.prog.elem 84)).run Tryd.prog w = .ok 1 w := by kernel_rfl
theorem info8 : (Tryd.prog.info? 5).map (fun i => (i.zero, i.size, i.bytes)) = some (some (.int .u8 0), 1, 1) := by kernel_rfl
theorem info8s : (Tryd.prog.info? 5).map (·.size) = some 1 := by kernel_rfl
theorem zero8 (w : World) : (zeroValue 5).run Tryd.prog w = .ok (.int .u8 0) w := by kernel_rfl

theorem size_any {w : World} {p g : Nat} {L : List Nat} (h : IsMem w p g L) :
    Calls Tryd.prog 45 #[.pointer (some ⟨p, 0, none⟩)] w fun e w' => e = .returned (.int .u64 (L.length : Int)) ∧ w = w' := by
  have hb := h.big
  have hc : w.cell? ⟨p, 0, none⟩ = some (.slice (some ⟨g, 0, none⟩) L.length L.length) := h.head.cell 0
  clear h
  go_enter Tryd.func45, Tryd.ntmps45
  go_wp2
  go_ret
  exact ⟨rfl, rfl⟩

theorem part_ok {w : World} {p g : Nat} {L : List Nat} (h : IsMem w p g L) (addr n : Nat) (hn : addr + n ≤ L.length) :
    ∃ o, (0 < n → o = addr) ∧ Calls Tryd.prog 72 #[.pointer (some ⟨p, 0, none⟩), .int .u64 (addr : Int), .int .u64 (n : Int)] w fun e w' => e = .returned (.tuple #[.slice (some ⟨g, o, none⟩) n (L.length - addr), .int .i64 0]) ∧ w = w' := by
  have hb := h.big
  obtain ⟨o, ho, hr⟩ := run_slice_both (P := Tryd.prog) 84 Tryd.underlying84 size8 .u64 .u64 g 0 L.length L.length addr (addr + n) (by omega) hn
  rw [show ((addr + n : Nat) : Int) = (addr : Int) + (n : Int) by omega, show addr + n - addr = n by omega] at hr
  refine ⟨o, fun h => by rw [ho (by omega)]; omega, ?_⟩
  have HS := Lib.hid (size_any h)
  have hc : w.cell? ⟨p, 0, none⟩ = some (.slice (some ⟨g, 0, none⟩) L.length L.length) := h.head.cell 0
  clear h ho
  go_enter Tryd.func72, Tryd.ntmps72
  go_wp2_with (go_at_call 45; refine HS.out.mono ?_; rintro e w' ⟨rfl, rfl⟩)
  go_ret2
  exact ⟨rfl, rfl⟩

theorem part_out {w : World} {p g : Nat} {L : List Nat} (h : IsMem w p g L) (addr n : Nat) (hn : L.length < addr + n) :
    Calls Tryd.prog 72 #[.pointer (some ⟨p, 0, none⟩), .int .u64 (addr : Int), .int .u64 (n : Int)] w fun e w' => e = .returned (.tuple #[.slice none 0 0, .int .i64 3]) ∧ w = w' := by
  have hb := h.big
  have HS := Lib.hid (size_any h)
  clear h
  by_cases ha : L.length < addr
  · go_enter Tryd.func72, Tryd.ntmps72
    go_wp2_with (go_at_call 45; refine HS.out.mono ?_; rintro e w' ⟨rfl, rfl⟩)
    go_ret2
    exact ⟨rfl, rfl⟩
  · have ha' : addr ≤ L.length := by omega
    have hn' : (L.length : Int) - (addr : Int) < (n : Int) := by omega
    clear ha
    go_enter Tryd.func72, Tryd.ntmps72
    go_wp2_with (go_at_call 45; refine HS.out.mono ?_; rintro e w' ⟨rfl, rfl⟩)
    go_ret2
    exact ⟨rfl, rfl⟩

theorem part_nil (w : World) (addr n : Int) :
    Calls Tryd.prog 72 #[.pointer none, .int .u64 addr, .int .u64 n] w fun e w' => e = .returned (.tuple #[.slice none 0 0, .int .i64 1]) ∧ w = w' := by
  go_enter Tryd.func72, Tryd.ntmps72
  go_wp2
  go_ret2
  exact ⟨rfl, rfl⟩

/-! ### mayHold -/
def W4 (n : Nat) : Prop := n = 1 ∨ n = 2 ∨ n = 4 ∨ n = 8
theorem ret_bool {a b : Bool} (h : a = b) : Ending.returned (.bool a) = .returned (.bool b) := by rw [h]
theorem div_dec (x d : Nat) (hd : 0 < d) : ((x : Int) / (d : Int) == 0) = decide (x < d) := by
  rw [Bool.eq_iff_iff, beq_iff_eq, decide_eq_true_iff, ← Int.natCast_ediv]
  have := Nat.div_eq_zero_iff_lt (x := x) hd
  omega
theorem may_any (n x : Nat) (h : W4 n) (_ : x ≤ 18446744073709551615) (w : World) :
    Calls Tryd.prog 111 #[.int .i64 (n : Int), .int .u64 (x : Int)] w fun e w' => e = .returned (.bool (decide (x < 256 ^ n))) ∧ w = w' := by
  rcases h with rfl | rfl | rfl | rfl
  all_goals
    go_enter Tryd.func111, Tryd.ntmps111
    go_wp2
    go_ret
    exact ⟨ret_bool (div_dec x _ (by decide)), rfl⟩

/-! ### word -/
theorem word_ok {w : World} {p g : Nat} {L : List Nat} (h : IsMem w p g L) (addr n x : Nat) (h4 : W4 n) (hx : x < 256 ^ n) (hx' : x ≤ 18446744073709551615) (hn : addr + n ≤ L.length) :
    Calls Tryd.prog 95 #[.pointer (some ⟨p, 0, none⟩), .int .u64 (addr : Int), .int .i64 (n : Int), .int .u64 (x : Int)] w fun e w' => e = .returned (.tuple #[.slice (some ⟨g, addr, none⟩) n (L.length - addr), .int .i64 0]) ∧ w = w' := by
  have hb := h.big
  have h1 : 1 ≤ n := by rcases h4 with rfl | rfl | rfl | rfl <;> decide
  have h8 : n ≤ 8 := by rcases h4 with rfl | rfl | rfl | rfl <;> decide
  obtain ⟨o, ho, hc⟩ := part_ok h addr n hn
  obtain rfl := ho (by omega)
  have hm := may_any n x h4 hx' w
  rw [decide_eq_true hx] at hm
  have HC := Lib.hid hc; have HM := Lib.hid hm
  clear hc hm h hx h4
  go_enter Tryd.func95, Tryd.ntmps95
  go_wp2_with (first | (go_at_call 111; refine HM.out.mono ?_; rintro e w' ⟨rfl, rfl⟩) | (go_at_call 72; refine HC.out.mono ?_; rintro e w' ⟨rfl, rfl⟩))
  go_ret2
  exact ⟨rfl, rfl⟩

theorem word_out {w : World} {p g : Nat} {L : List Nat} (h : IsMem w p g L) (addr n x : Nat) (h4 : W4 n) (hx : x < 256 ^ n) (hx' : x ≤ 18446744073709551615) (hn : L.length < addr + n) :
    Calls Tryd.prog 95 #[.pointer (some ⟨p, 0, none⟩), .int .u64 (addr : Int), .int .i64 (n : Int), .int .u64 (x : Int)] w fun e w' => e = .returned (.tuple #[.slice none 0 0, .int .i64 3]) ∧ w = w' := by
  have hb := h.big
  have h1 : 1 ≤ n := by rcases h4 with rfl | rfl | rfl | rfl <;> decide
  have h8 : n ≤ 8 := by rcases h4 with rfl | rfl | rfl | rfl <;> decide
  have hc := part_out h addr n hn
  have hm := may_any n x h4 hx' w
  rw [decide_eq_true hx] at hm
  have HC := Lib.hid hc; have HM := Lib.hid hm
  clear hc hm h hx h4
  go_enter Tryd.func95, Tryd.ntmps95
  go_wp2_with (first | (go_at_call 111; refine HM.out.mono ?_; rintro e w' ⟨rfl, rfl⟩) | (go_at_call 72; refine HC.out.mono ?_; rintro e w' ⟨rfl, rfl⟩))
  go_ret2
  exact ⟨rfl, rfl⟩

/-! ### number -/
def NumRel (l : List Nat) (x i : Value) : Prop := ∃ k : Nat, k ≤ l.length ∧ x = .int .u64 ((MemMath.val (l.take k) : Nat) : Int) ∧ i = .int .i64 (k : Int)
theorem pow256 {k : Nat} (h : k ≤ 8) : (256 : Nat) ^ k ≤ 18446744073709551616 := Nat.le_trans (Nat.pow_le_pow_right (by decide) h) (by decide)
theorem or_byte (X c k : Nat) (hX : X < 256 ^ k) (hc : c < 256) (hk : k < 8) : bits .or .u64 (X : Int) (IntKind.u64.wrap ((c : Int) * 2 ^ (8 * k))) = ((X + 256 ^ k * c : Nat) : Int) := by
  have e : (256 : Nat) ^ k = 2 ^ (8 * k) := by rw [show (256 : Nat) = 2 ^ 8 by decide, ← Nat.pow_mul]
  have hp : (256 : Nat) ^ k ≤ 72057594037927936 := Nat.le_trans (Nat.pow_le_pow_right (by decide) (show k ≤ 7 by omega)) (by decide)
  have hcm : c * 256 ^ k ≤ 255 * 72057594037927936 := Nat.mul_le_mul (by omega) hp
  have e2 : ((c : Int) * 2 ^ (8 * k)) = ((c * 2 ^ (8 * k) : Nat) : Int) := by simp
  have e3 : IntKind.u64.wrap ((c * 2 ^ (8 * k) : Nat) : Int) = ((c * 2 ^ (8 * k) : Nat) : Int) := by
    rw [e] at hcm
    obtain ⟨Y, hY⟩ : ∃ Y, c * 2 ^ (8 * k) = Y := ⟨_, rfl⟩
    rw [hY] at hcm ⊢
    simp [IntKind.wrap, IntKind.bits, IntKind.signed]
    omega
  rw [e2, e3, u64_or_nat _ _ (by omega) (by rw [← e]; omega), MemMath.shl_or X c k hX]
theorem number_any (w : World) (b off cap : Nat) (l : List Nat) (hc : ∀ j, j < l.length → w.cell? ⟨b, off + j, none⟩ = some (.int .u8 ((l.getD j 0 : Nat) : Int))) (h8 : l.length ≤ 8) (hb : MemMath.Byt l) :
    Calls Tryd.prog 96 #[.slice (some ⟨b, off, none⟩) l.length cap] w fun e w' => e = .returned (.int .u64 ((MemMath.val l : Nat) : Int)) ∧ w = w' := by
  have HC := Lib.hid hc; have HB := Lib.hid hb
  clear hc hb
  go_enter Tryd.func96, Tryd.ntmps96
  go_wp2
  go_loop [3, 8] (fun x i => NumRel l x i) (fun _ i => l.length - (intOf i).toNat)
  case atStart => exact ⟨0, Nat.zero_le _, rfl, rfl⟩
  case round =>
    obtain ⟨k, hk, rfl, rfl⟩ := hrel
    by_cases hlt : k < l.length
    · have hcell := HC.out k hlt
      have hv := MemMath.val_take_succ hlt
      have hc256 := HB.out.getD k
      have hx : MemMath.val (l.take k) < 256 ^ k := by
        have := MemMath.val_lt (HB.out.take k)
        rwa [List.length_take, Nat.min_eq_left hk] at this
      obtain ⟨c, hcd⟩ : ∃ c, l.getD k 0 = c := ⟨_, rfl⟩
      rw [hcd] at hcell hv hc256
      obtain ⟨X, hX⟩ : ∃ X, MemMath.val (l.take k) = X := ⟨_, rfl⟩
      rw [hX] at hv hx ⊢
      clear hcd hX
      have HV := Lib.hid hv; clear hv
      have HX := Lib.hid hx; clear hx
      go_wp2
      exact ⟨⟨k + 1, by omega, by rw [or_byte X c k HX.out hc256 (by omega), HV.out], by go_num⟩, by simp [intOf]; omega⟩
    · obtain rfl : k = l.length := by omega
      go_wp2
      go_ret
      exact ⟨rfl, rfl⟩

/-! ### lay -/
def LayRel (w : World) (g off n : Nat) (L : List Nat) (x : Nat) (i : Value) (wr : World) : Prop :=
  ∃ k : Nat, k ≤ n ∧ i = .int .i64 (k : Int) ∧ Bytes wr 5 g (splice L off (MemMath.le k x)) ∧ Upd (fun k => k = g) w wr
def Laid (w : World) (g off n : Nat) (L : List Nat) (x : Nat) (e : Ending) (w' : World) : Prop := e = .returned (.tuple #[]) ∧ Bytes w' 5 g (splice L off (MemMath.le n x)) ∧ Upd (fun k => k = g) w w'
theorem set_splice {L : List Nat} {off k n x : Nat} (hk : k < n) (hn : off + n ≤ L.length) : (splice L off (MemMath.le k x)).set (off + k) (x / 256 ^ k % 256) = splice L off (MemMath.le (k + 1) x) := by
  have hl : (splice L off (MemMath.le k x)).length = L.length := MemMath.length_splice' (by rw [MemMath.length_le]; omega)
  apply MemMath.ext_getD
  · rw [List.length_set, hl, MemMath.length_splice' (by rw [MemMath.length_le]; omega)]
  · intro i hi
    rw [List.length_set, hl] at hi
    rw [MemMath.getD_splice (by rw [MemMath.length_le]; omega), MemMath.length_le]
    rw [show ((splice L off (MemMath.le k x)).set (off + k) (x / 256 ^ k % 256)).getD i 0 = if off + k = i then x / 256 ^ k % 256 else (splice L off (MemMath.le k x)).getD i 0 by
      simp only [List.getD_eq_getElem?_getD, List.getElem?_set, hl]
      by_cases h : off + k = i
      · rw [if_pos h, if_pos h, if_pos (by omega)]; rfl
      · rw [if_neg h, if_neg h]]
    rw [MemMath.getD_splice (by rw [MemMath.length_le]; omega), MemMath.length_le]
    by_cases h1 : off + k = i
    · rw [if_pos h1, if_pos (by omega), MemMath.getD_le _ _ _ (by omega), show i - off = k by omega]
    · rw [if_neg h1]
      by_cases h2 : off ≤ i ∧ i < off + k
      · rw [if_pos h2, if_pos (by omega), MemMath.getD_le _ _ _ (by omega), MemMath.getD_le _ _ _ (by omega)]
      · rw [if_neg h2, if_neg (by omega)]
theorem lay_any (w : World) (g off n cap : Nat) (L : List Nat) (x : Nat) (h : Bytes w 5 g L) (hn : off + n ≤ L.length) (h8 : n ≤ 8) (hx : x ≤ 18446744073709551615) (hL : L.length ≤ 1048576) :
    Calls Tryd.prog 109 #[.slice (some ⟨g, off, none⟩) n cap, .int .u64 (x : Int)] w (Laid w g off n L x) := by
  have H := Lib.hid h; clear h
  go_enter Tryd.func109, Tryd.ntmps109
  go_wp2
  go_loopw [7] (fun i wr => LayRel w g off n L x i wr) (fun i _ => n - (intOf i).toNat)
  case atStart => exact ⟨0, Nat.zero_le _, rfl, by rw [MemMath.le, MemMath.splice_nil]; exact H.out, Upd.refl _ _⟩
  case round =>
    obtain ⟨k, hk, rfl, hr, hu⟩ := hrel
    by_cases hlt : k < n
    · have hcell : wr.cell? ⟨g, off + k, none⟩ = some (.int .u8 (((splice L off (MemMath.le k x)).getD (off + k) 0 : Nat) : Int)) := hr.cell _ (by rw [MemMath.length_splice' (by rw [MemMath.length_le]; omega)]; omega)
      obtain ⟨c, hc⟩ : ∃ c, (splice L off (MemMath.le k x)).getD (off + k) 0 = c := ⟨_, rfl⟩
      rw [hc] at hcell; clear hc
      have hfr : wr.frozen? ⟨g, off + k, none⟩ = false := hr.frozen _
      have HR := Lib.hid hr; clear hr
      go_wp2
      refine ⟨⟨k + 1, by omega, by go_num, ?_, hu.setCell (.inl rfl) _⟩, by simp [intOf]; omega⟩
      rw [← set_splice hlt hn]
      refine HR.out.put (off + k) _ _ ?_
      rw [Int.natCast_emod, Int.natCast_ediv, Int.natCast_pow, Int.pow_mul]
      rfl
    · obtain rfl : k = n := by omega
      have HH := Lib.hid (And.intro hr hu)
      clear hr hu
      go_wp2
      go_end0
      exact ⟨rfl, HH.out.1, HH.out.2⟩

end Go.Proofs.YtomepdgddpajoaaDoor
