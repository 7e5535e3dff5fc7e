/- Memory (layer 2): Fill; the document's Same: contracts. -/
import Derived.Test.YtomepdgddpajoaaDoorMem2
import Derived.Deep.RegionLaw
import Derived.IntWalk
namespace Go.Proofs.YtomepdgddpajoaaDoor
open Go.RowKit
set_option linter.unusedVariables false
set_option maxRecDepth 100000

def FillRel (w : World) (g addr n : Nat) (L l : List Nat) (x : Value) (wr : World) : Prop :=
  ∃ d : Nat, d ≤ n ∧ x = .int .i64 (d : Int) ∧ (d = n ∨ d % l.length = 0 ∧ 0 < d) ∧ Bytes wr 5 g (splice L addr (MemMath.fill d l)) ∧ Upd (fun k => k = g) w wr

theorem fill_step {L l : List Nat} {addr d n : Nat} (hd : d % l.length = 0) (h0 : 0 < d) (hlt : d < n) (hn : addr + n ≤ L.length) :
    splice (splice L addr (MemMath.fill d l)) (addr + d) ((MemMath.fill d l).take (min d (n - d))) = splice L addr (MemMath.fill (d + min d (n - d)) l) ∧ (d + min d (n - d) = n ∨ (d + min d (n - d)) % l.length = 0 ∧ 0 < d + min d (n - d)) := by
  refine ⟨?_, ?_⟩
  · have := MemMath.splice_append (L := L) (a := MemMath.fill d l) (b := (MemMath.fill d l).take (min d (n - d))) (o := addr) (by simp [MemMath.length_fill]; omega)
    rw [MemMath.length_fill] at this
    rw [this, MemMath.fill_twice hd (by omega)]
  · by_cases h : d ≤ n - d
    · refine .inr ⟨?_, by omega⟩
      rw [Nat.min_eq_left h, Nat.add_mod, hd]
      simp
    · exact .inl (by omega)

theorem fill_none {w : World} {p g : Nat} {L : List Nat} (h : IsMem w p g L) (addr n : Nat) (a : Option Addr) (c : Nat) (hn : addr + n ≤ L.length) :
    Calls Tryd.prog 39 #[.pointer (some ⟨p, 0, none⟩), .int .u64 (addr : Int), .int .u64 (n : Int), .slice a 0 c] w (Wrote w p g (splice L addr (MemMath.fill n [])) (.int .i64 0)) := by
  have hbig := h.big
  obtain ⟨o, ho, hp⟩ := part_ok h addr n hn
  have HP := Lib.hid hp
  have H := Lib.hid h; have HO := Lib.hid ho
  clear hp h ho
  go_enter Tryd.func39, Tryd.ntmps39
  go_wp2_with (first | (go_at_call 72; refine HP.out.mono ?_; rintro e w' ⟨rfl, rfl⟩) | (refine wpList_clear_bytes rfl (.tmp 25) 84 rfl 5 Tryd.underlying84 zero8 _ _ _ rfl L g addr H.out.row (fun h => by rw [HO.out h]) hn ?_; intro w1 hr hu))
  have HH := Lib.hid (And.intro hr hu)
  clear hr hu
  go_wp2
  go_ret
  refine ⟨rfl, H.out.written HH.out.2 ?_ (MemMath.length_splice' (by rw [MemMath.length_fill]; exact hn)) (H.out.byt.splice (MemMath.byt_fill MemMath.Byt.nil) _), HH.out.2⟩
  rw [MemMath.fill_nil]; exact HH.out.1

set_option maxHeartbeats 400000 in
theorem fill_some {w : World} {p g : Nat} {L : List Nat} (h : IsMem w p g L) (addr n : Nat) (a : Option Addr) (c : Nat) (l : List Nat) (hl : Reads8 w (.slice a l.length c) l) (hb : MemMath.Byt l) (h0 : 0 < l.length) (hlm : l.length ≤ 9223372036854775807) (hn : addr + n ≤ L.length) :
    Calls Tryd.prog 39 #[.pointer (some ⟨p, 0, none⟩), .int .u64 (addr : Int), .int .u64 (n : Int), .slice a l.length c] w (Wrote w p g (splice L addr (MemMath.fill n l)) (.int .i64 0)) := by
  have hbig := h.big
  obtain ⟨o, ho, hp⟩ := part_ok h addr n hn
  have HP := Lib.hid hp
  have H := Lib.hid h; have HO := Lib.hid ho; have HR := Lib.hid hl; have HB := Lib.hid hb
  clear hp h ho hl hb
  have ht : ((l.length : Int) == 0) = false := by rw [beq_eq_false_iff_ne]; omega
  go_enter Tryd.func39, Tryd.ntmps39
  go_wp2_with (first | (go_at_call 72; refine HP.out.mono ?_; rintro e w' ⟨rfl, rfl⟩) | (refine wpList_copy_bytes rfl (.tmp 26) (.tmp 27) 84 84 rfl 5 Tryd.underlying84 info8s _ _ _ _ _ _ rfl rfl l L g addr H.out.row HR.out (min l.length n) rfl (fun h => by rw [HO.out (by omega)]) hn ?_; intro w1 hr hu))
  have R1 := Lib.hid hr; have U1 := Lib.hid hu
  clear hr hu
  go_wp2
  go_loopw [11] (fun x wr => FillRel w g addr n L l x wr) (fun x _ => n - (intOf x).toNat)
  case atStart =>
    refine ⟨min l.length n, by omega, rfl, ?_, ?_, U1.out⟩
    · by_cases h : l.length ≤ n
      · refine .inr ⟨?_, by omega⟩
        rw [Nat.min_eq_left h, Nat.mod_self]
      · exact .inl (by omega)
    · have := R1.out
      rw [MemMath.fill_first] at this
      exact this
  case round =>
    obtain ⟨d, hd, rfl, hway, hr, hu⟩ := hrel
    by_cases hlt : d < n
    · obtain ⟨hmod, hd0⟩ : d % l.length = 0 ∧ 0 < d := by
        rcases hway with h | h
        · omega
        · exact h
      obtain rfl := HO.out (by omega)
      have hst := fill_step (L := L) (addr := o) hmod hd0 hlt hn
      obtain ⟨m, hm⟩ : ∃ m, min d (n - d) = m := ⟨_, rfl⟩
      rw [hm] at hst
      have hm1 : 1 ≤ m := by omega
      have hm2 : m ≤ n - d := by omega
      have HM : Hid (m = min (MemMath.fill d l).length (n - d)) := Lib.hid (by rw [MemMath.length_fill]; exact hm.symm)
      have ST := Lib.hid hst
      clear hm hst
      obtain ⟨p', hp', hs1⟩ := run_slice_lower (P := Tryd.prog) 84 Tryd.underlying84 size8 .i64 g o n (L.length - o) d (by omega) (by omega)
      obtain rfl := hp' hlt
      have hs2 := fun w => run_slice_higher (P := Tryd.prog) 84 Tryd.underlying84 size8 .i64 (some ⟨g, o, none⟩) n (L.length - o) d (by omega) w
      have hrd : Reads8 wr (.slice (some ⟨g, o, none⟩) d (L.length - o)) (MemMath.fill d l) := by
        have hlen : (splice L o (MemMath.fill d l)).length = L.length := MemMath.length_splice' (by rw [MemMath.length_fill]; omega)
        have := hr.reads o d (L.length - o) (by omega)
        have e := MemMath.part_splice (L := L) (cs := MemMath.fill d l) (o := o) (by rw [MemMath.length_fill]; omega)
        rw [MemMath.length_fill] at e
        rw [e] at this
        exact this
      have hlen : o + d + (n - d) ≤ (splice L o (MemMath.fill d l)).length := by rw [MemMath.length_splice' (by rw [MemMath.length_fill]; omega)]; omega
      have RD := Lib.hid hrd; have RR := Lib.hid hr; have LL := Lib.hid hlen; have UU := Lib.hid hu
      clear hrd hr hmod hway hlen hp' hu
      go_wp2
      have hwr : IntKind.i64.wrap ((d : Int) + (m : Int)) = (d : Int) + (m : Int) := IntWalk.i64_in _ (by omega)
      go_region_law (refine step_copy_bytes rfl (.tmp 36) (.tmp 39) 84 84 rfl 5 Tryd.underlying84 info8s (some ⟨g, o + d, none⟩) (n - d) (L.length - o - d) (some ⟨g, o, none⟩) d (L.length - o) ?_ ?_ (MemMath.fill d l) (splice L o (MemMath.fill d l)) g (o + d) RR.out.drew RD.out.drew m HM.out (fun _ => rfl) LL.out ?_; go_simp; go_simp; intro w2 hr2 hu2)
      all_goals
        rw [ST.out.1] at hr2
        have R2 := Lib.hid hr2; have U2 := Lib.hid hu2
        clear hr2 hu2
        clear hwr
        go_frame
        go_roundw
        case rel =>
          repeat apply Exists.intro
          exact ⟨⟨d + m, by omega, by go_num, ST.out.2, R2.out, UU.out.drew.trans U2.out⟩, rfl⟩
        case measure => simp [intOf]; omega
    · obtain rfl : d = n := by omega
      have HH := Lib.hid (And.intro hr hu)
      clear hr hu hway
      go_wp2
      go_ret
      exact ⟨rfl, H.out.written HH.out.2 HH.out.1 (MemMath.length_splice' (by rw [MemMath.length_fill]; exact hn)) (H.out.byt.splice (MemMath.byt_fill HB.out) _), HH.out.2⟩

/-- Whatever the pattern. -/
theorem fill_any {w : World} {p g : Nat} {L : List Nat} (h : IsMem w p g L) (addr n : Nat) (a : Option Addr) (c : Nat) (l : List Nat) (hl : Reads8 w (.slice a l.length c) l) (hb : MemMath.Byt l) (hlm : l.length ≤ 9223372036854775807) (hn : addr + n ≤ L.length) :
    Calls Tryd.prog 39 #[.pointer (some ⟨p, 0, none⟩), .int .u64 (addr : Int), .int .u64 (n : Int), .slice a l.length c] w (Wrote w p g (splice L addr (MemMath.fill n l)) (.int .i64 0)) := by
  by_cases h0 : l = []
  · subst h0; exact fill_none h addr n a c hn
  · exact fill_some h addr n a c l hl hb (List.length_pos_iff.2 h0) hlm hn

theorem fill_out {w : World} {p g : Nat} {L : List Nat} (h : IsMem w p g L) (addr n : Nat) (a : Option Addr) (m c : Nat) (hn : L.length < addr + n) :
    Calls Tryd.prog 39 #[.pointer (some ⟨p, 0, none⟩), .int .u64 (addr : Int), .int .u64 (n : Int), .slice a m c] w fun e w' => e = .returned (.int .i64 3) ∧ w = w' := by
  have HP := Lib.hid (part_out h addr n hn)
  clear h
  go_enter Tryd.func39, Tryd.ntmps39
  go_wp2_with (go_at_call 72; refine HP.out.mono ?_; rintro e w' ⟨rfl, rfl⟩)
  go_ret
  exact ⟨rfl, rfl⟩

/-! ### Same -/
end Go.Proofs.YtomepdgddpajoaaDoor
