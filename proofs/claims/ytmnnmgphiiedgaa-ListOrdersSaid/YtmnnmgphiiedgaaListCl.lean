/- What the laws of layer 7 need of the program's lists (to be proved of the code that landed); one list in a memory, in a law. -/
import Derived.Test.YtmnnmgphiiedgaaElems
import Derived.Test.YtmnnmgphiiedgaaChains
import Derived.Test.YtmnnmgphiiedgaaMem2
import Derived.Test.YtmnnmgphiiedgaaMem3
namespace Go.Proofs.Ytmnnmgphiiedgaa
open Go.RowKit ListMath
set_option linter.unusedVariables false

def lsC (h : Nat) (n : Int) : Array Value := #[.int .u64 (h : Int), .int .i64 n]
abbrev U64B (n : Nat) : Prop := n ≤ 18446744073709551615
/-- A list's count that may grow. -/
abbrev CntB (n : Int) : Prop := 0 ≤ n ∧ n ≤ 1000000000
structure Li (w0 : World) : Prop where
  push : ∀ w, Below w0.heap.size w0 w → ∀ {p g lp : Nat} {s : LS} {a : Option Addr} {k cap : Nat} {l : List Nat}, IsMem w p g s.L → Blk w lp 33 (lsC s.h s.n) → Seq Elem.u64s w (.slice a k cap) l → (∀ b, In (.slice a k cap) b → b ≠ g ∧ b ≠ lp) → k ≤ cap → cap ≤ 9223372036854775807 → (∀ x ∈ l, U64B x) → k ≤ 100000 → U64B s.h → CntB s.n →
    Calls Try.prog 24 #[.pointer (some ⟨lp, 0, none⟩), .pointer (some ⟨p, 0, none⟩), .slice a k cap] w fun e w' => e = .returned (.int .i64 (pushN s l).2) ∧ IsMem w' p g (pushN s l).1.L ∧ Blk w' lp 33 (lsC (pushN s l).1.h (pushN s l).1.n) ∧ Upd (fun b => b = g ∨ b = lp) w w'
  push_nil : ∀ w, Below w0.heap.size w0 w → ∀ {p g : Nat} {L : List Nat}, IsMem w p g L → Calls Try.prog 24 #[.pointer none, .pointer (some ⟨p, 0, none⟩), .slice none 0 0] w fun e w' => e = .returned (.int .i64 1) ∧ Below w.heap.size w w'
  pop : ∀ w, Below w0.heap.size w0 w → ∀ {p g lp : Nat} {s : LS}, IsMem w p g s.L → Blk w lp 33 (lsC s.h s.n) → U64B s.h → CntB s.n →
    Calls Try.prog 13 #[.pointer (some ⟨lp, 0, none⟩), .pointer (some ⟨p, 0, none⟩)] w fun e w' => e = .returned (.tuple #[.int .u64 ((popN s).2.1 : Int), .int .i64 (popN s).2.2]) ∧ Blk w' lp 33 (lsC (popN s).1.h (popN s).1.n) ∧ Upd (fun b => b = lp) w w'
  all : ∀ w, Below w0.heap.size w0 w → ∀ {p g lp : Nat} {s : LS}, IsMem w p g s.L → Blk w lp 33 (lsC s.h s.n) → U64B s.h → CntB s.n →
    Calls Try.prog 15 #[.pointer (some ⟨lp, 0, none⟩), .pointer (some ⟨p, 0, none⟩)] w fun e w' => ∃ a k cap, e = .returned (.tuple #[.slice a k cap, .int .i64 (if (allN s).isSome then 0 else 3)]) ∧ Seq Elem.u64s w' (.slice a k cap) ((allN s).getD []) ∧ k ≤ cap ∧ cap ≤ 9223372036854775807 ∧ (∀ b, In (.slice a k cap) b → w.heap.size ≤ b) ∧ Below w.heap.size w w'
  join : ∀ w, Below w0.heap.size w0 w → ∀ {p g lp op : Nat} {L : List Nat} {lh oh : Nat} {ln on : Int}, IsMem w p g L → Blk w lp 33 (lsC lh ln) → Blk w op 33 (lsC oh on) → lp ≠ op → U64B lh → U64B oh → CntB ln → CntB on →
    Calls Try.prog 18 #[.pointer (some ⟨lp, 0, none⟩), .pointer (some ⟨p, 0, none⟩), .pointer (some ⟨op, 0, none⟩)] w fun e w' => e = .returned (.int .i64 (if (joinN L lh ln oh on).isSome then 0 else 3)) ∧
      IsMem w' p g ((joinN L lh ln oh on).getD (⟨L, lh, ln⟩, ⟨L, oh, on⟩)).1.L ∧ Blk w' lp 33 (lsC ((joinN L lh ln oh on).getD (⟨L, lh, ln⟩, ⟨L, oh, on⟩)).1.h ((joinN L lh ln oh on).getD (⟨L, lh, ln⟩, ⟨L, oh, on⟩)).1.n) ∧ Blk w' op 33 (lsC ((joinN L lh ln oh on).getD (⟨L, lh, ln⟩, ⟨L, oh, on⟩)).2.h ((joinN L lh ln oh on).getD (⟨L, lh, ln⟩, ⟨L, oh, on⟩)).2.n) ∧ Upd (fun b => b = g ∨ b = lp ∨ b = op) w w'
  join_self : ∀ w, Below w0.heap.size w0 w → ∀ {p g lp : Nat} {L : List Nat} {lh : Nat} {ln : Int}, IsMem w p g L → Blk w lp 33 (lsC lh ln) →
    Calls Try.prog 18 #[.pointer (some ⟨lp, 0, none⟩), .pointer (some ⟨p, 0, none⟩), .pointer (some ⟨lp, 0, none⟩)] w fun e w' => e = .returned (.int .i64 2) ∧ Below w.heap.size w w'
  chain : ∀ w, Below w0.heap.size w0 w → ∀ {p g : Nat} {L : List Nat} {h : Nat} {m : Int}, IsMem w p g L → U64B h → -9223372036854775808 ≤ m → m ≤ 9223372036854775807 →
    Calls Try.prog 22 #[.pointer (some ⟨p, 0, none⟩), .int .u64 (h : Int), .int .i64 m] w fun e w' => e = .returned (.tuple #[.agg (if (chainN L h m).isSome then lsC h (((chainN L h m).getD []).length : Int) else lsC 0 0), .int .i64 (if (chainN L h m).isSome then 0 else 3)]) ∧ Below w.heap.size w w'
theorem Li.up {w0 w : World} (C : Li w0) (hb : Below w0.heap.size w0 w) : Li w where
  push w' hw := C.push w' (below_then hb hb.size hw)
  push_nil w' hw := C.push_nil w' (below_then hb hb.size hw)
  pop w' hw := C.pop w' (below_then hb hb.size hw)
  all w' hw := C.all w' (below_then hb hb.size hw)
  join w' hw := C.join w' (below_then hb hb.size hw)
  join_self w' hw := C.join_self w' (below_then hb hb.size hw)
  chain w' hw := C.chain w' (below_then hb hb.size hw)
/-- One list in a memory, both a law's own. -/
structure One (w : World) (p g lp : Nat) (s : LS) (w' : World) : Prop where
  mem : IsMem w' p g s.L
  lst : Blk w' lp 33 (lsC s.h s.n)
  fp : w.heap.size ≤ p
  fg : w.heap.size ≤ g
  fl : w.heap.size ≤ lp
  below : Below w.heap.size w w'
theorem One.turn {w w' w2 : World} {p g lp : Nat} {s t : LS} {S : Nat → Prop} (h : One w p g lp s w') (hm : IsMem w2 p g t.L) (hl : Blk w2 lp 33 (lsC t.h t.n)) (u : Upd S w' w2) (hS : ∀ b, S b → b = g ∨ b = lp) : One w p g lp t w2 :=
  ⟨hm, hl, h.fp, h.fg, h.fl, h.below.trans (u.below (fun b hb => by rcases hS b hb with rfl | rfl; exact h.fg; exact h.fl) h.below.size)⟩
theorem One.grew {w w' w2 : World} {p g lp : Nat} {s : LS} (h : One w p g lp s w') (hb : Below w'.heap.size w' w2) : One w p g lp s w2 :=
  ⟨h.mem.upd (updFalse_of hb) id id, h.lst.grew hb, h.fp, h.fg, h.fl, below_then h.below h.below.size hb⟩
theorem One.alloc {w w' : World} {p g lp : Nat} {s : LS} (h : One w p g lp s w') (o : Obj) : One w p g lp s (w'.alloc o) := h.grew ((Below.refl _ w').alloc (Nat.le_refl _) o)
theorem IsMem.pnl {w : World} {p g lp : Nat} {L : List Nat} {c : Array Value} (h : IsMem w p g L) (hl : Blk w lp 33 c) : lp ≠ p ∧ lp ≠ g :=
  ⟨(Blk.ne h.head hl (by decide)).symm, (Blk.ne h.row hl (by decide)).symm⟩
set_option maxHeartbeats 1000000 in
theorem same7_any (w : World) {a b : Option Addr} {n m c d : Nat} {l k : List Nat} (ha : Seq Elem.u64s w (.slice a n c) l) (hb : Seq Elem.u64s w (.slice b m d) k) (hn : n ≤ 9223372036854775807) (hm : m ≤ 9223372036854775807) :
    Calls Try.prog 17 #[.slice a n c, .slice b m d] w fun e w' => e = .returned (.bool (decide (l = k))) ∧ Below w.heap.size w w' := by
  have HA := Lib.hid ha; have HB := Lib.hid hb
  have hnl := ha.len
  have hml := hb.len
  have HNL := Lib.hid hnl; have HML := Lib.hid hml
  clear ha hb hnl hml
  by_cases hlen : n = m
  · subst hlen
    obtain ⟨y, hy⟩ : ∃ y, decide (l = k) = y := ⟨_, rfl⟩
    have HY := Lib.hid hy
    rw [hy]
    clear hy
    have t0 : ((n : Int) != (n : Int)) = false := by simp
    go_enter Try.func17, Try.ntmps17
    go_wp2
    go_loopw [13] (fun i wr => ∃ j : Nat, j ≤ n ∧ i = .int .i64 (j : Int) ∧ (∀ x, x < j → l.getD x 0 = k.getD x 0) ∧ Below w.heap.size w wr) (fun i _ => n - (intOf i).toNat)
    case atStart => exact ⟨0, Nat.zero_le _, rfl, fun x hx => by omega, Below.refl _ _⟩
    case round =>
      obtain ⟨j, hj, rfl, hsame, hb⟩ := hrel
      have SM := Lib.hid hsame; have B := Lib.hid hb
      have sr := hb.size
      clear hsame hb
      by_cases hjl : j < n
      · obtain ⟨x, hx⟩ : ∃ x, l[j]? = some x := ⟨l[j]'(by rw [← HNL.out]; exact hjl), List.getElem?_eq_getElem _⟩
        obtain ⟨z, hz⟩ : ∃ x, k[j]? = some x := ⟨k[j]'(by rw [← HML.out]; exact hjl), List.getElem?_eq_getElem _⟩
        obtain ⟨b2, off2, e1, hc1⟩ := (HA.out.below (Nat.le_refl _) B.out).elem hx
        obtain ⟨b3, off3, e2, hc2⟩ := (HB.out.below (Nat.le_refl _) B.out).elem hz
        subst e1 e2
        have d0 := hc1 0 (.int .u64 (x : Int)) rfl
        have d1 := hc2 0 (.int .u64 (z : Int)) rfl
        simp only [Elem.u64s, Nat.add_zero, Nat.mul_one] at d0 d1
        have gx : l.getD j 0 = x := by rw [List.getD_eq_getElem?_getD, hx]; rfl
        have gz : k.getD j 0 = z := by rw [List.getD_eq_getElem?_getD, hz]; rfl
        have GX := Lib.hid gx; have GZ := Lib.hid gz
        have q2 : decide ((j : Int) < (n : Int)) = true := decide_eq_true (by omega)
        have q3 : (0 : Int) ≤ (j : Int) := by omega
        have q4 : (j : Int) < (n : Int) := by omega
        clear hc1 hc2 hx hz gx gz
        by_cases hxz : x = z
        · subst hxz
          have t1 : ((x : Int) != (x : Int)) = false := by simp
          go_wp2
          go_quiet (fail)
          go_wp2
          go_roundw
          case rel => exact ⟨j + 1, by omega, by go_num, fun i hi => by
            rcases Nat.lt_or_ge i j with h | h
            · exact SM.out i h
            · obtain rfl : i = j := by omega
              rw [GX.out, GZ.out], below_drewN B.out _⟩
          case measure => simp [intOf]; omega
        · have t1 : ((x : Int) != (z : Int)) = true := by rw [bne_iff_ne]; omega
          have hy : y = false := by
            rw [← HY.out, decide_eq_false_iff_not]
            rintro rfl
            exact hxz (GX.out.symm.trans GZ.out)
          subst hy
          go_wp2
          go_quiet (fail)
          go_wp2
          go_ret
          exact ⟨rfl, below_drewN B.out _⟩
      · have hjn : j = n := by omega
        have q2 : decide ((j : Int) < (n : Int)) = false := decide_eq_false (by omega)
        have hy : y = true := by
          rw [← HY.out, decide_eq_true_iff]
          refine List.ext_getElem? fun i => ?_
          rcases Nat.lt_or_ge i n with h | h
          · have := SM.out i (by omega)
            rw [List.getD_eq_getElem?_getD, List.getD_eq_getElem?_getD] at this
            have h1 : i < l.length := by have := HNL.out; omega
            have h2 : i < k.length := by have := HML.out; omega
            rw [List.getElem?_eq_getElem h1, List.getElem?_eq_getElem h2] at this ⊢
            simpa using this
          · rw [List.getElem?_eq_none (by have := HNL.out; omega), List.getElem?_eq_none (by have := HML.out; omega)]
        subst hy
        go_wp2
        go_ret
        exact ⟨rfl, B.out⟩
  · have t0 : ((n : Int) != (m : Int)) = true := by rw [bne_iff_ne]; omega
    have hy : decide (l = k) = false := by
      rw [decide_eq_false_iff_not]
      rintro rfl
      exact hlen (HNL.out.trans HML.out.symm)
    rw [hy]
    clear hy hlen
    go_enter Try.func17, Try.ntmps17
    go_wp2
    go_ret
    exact ⟨rfl, Below.refl _ _⟩
end Go.Proofs.Ytmnnmgphiiedgaa
