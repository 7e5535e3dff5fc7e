/- Layer 7: what a law's list does, in terms of the blocks that hang on it. -/
import Derived.Test.YtmnnmgphiiedgaaAlive7
import Derived.Test.YtmnnmgphiiedgaaBlocks7
namespace Go.Proofs.Ytmnnmgphiiedgaa
open Go.RowKit ListMath
set_option linter.unusedVariables false

theorem push_ok {w : World} (C : Li w) {s : LS} {r l : List Nat} (hc : Chain s.L s.h r) (hL : s.L.length ≤ 1048576) (h1 : ∀ a ∈ l, a ≠ 0 ∧ a + 8 ≤ s.L.length) (h2 : ∀ a ∈ l, ∀ b ∈ r, Apart8 a b) (h3 : l.Pairwise Apart8) (hn : CntB s.n) (hl : l.length ≤ 100000) :
    ∃ t : LS, Chain t.L t.h (l.reverse ++ r) ∧ t.n = s.n + l.length ∧ t.L.length = s.L.length ∧ ∀ {p g lp : Nat} (w' : World), One w p g lp s w' → ∀ {a : Option Addr} {k cap : Nat}, Seq Elem.u64s w' (.slice a k cap) l → (∀ b, In (.slice a k cap) b → b ≠ g ∧ b ≠ lp) → k ≤ cap → cap ≤ 9223372036854775807 →
      Calls Try.prog 24 #[.pointer (some ⟨lp, 0, none⟩), .pointer (some ⟨p, 0, none⟩), .slice a k cap] w' fun e w2 => e = .returned (.int .i64 0) ∧ One w p g lp t w2 ∧ Upd (fun b => b = g ∨ b = lp) w' w2 := by
  obtain ⟨e1, e2, e3, e4⟩ := pushN_good l s r hc hL h1 h2 h3
  refine ⟨(pushN s l).1, e2, e3, e4, fun {p g lp} w' o {a k cap} hq hne hk hcap => ?_⟩
  have hlen := hq.len
  have := C.push w' o.below o.mem o.lst hq hne hk hcap (fun x hx => by have := (h1 x hx).2; show x ≤ 18446744073709551615; omega) (by omega) (by have := hc.head_le hL; show s.h ≤ 18446744073709551615; omega) hn
  rw [e1] at this
  exact this.mono fun e w2 ⟨he, hm, hl, hu⟩ => ⟨he, o.turn hm hl hu (fun b h => h), hu⟩
theorem pop_ok {w : World} (C : Li w) {s : LS} {r : List Nat} {x : Nat} (hc : Chain s.L s.h (x :: r)) (hL : s.L.length ≤ 1048576) (hn : s.n = (r.length : Int) + 1) (hb : r.length ≤ 100000) :
    ∃ t : LS, Chain t.L t.h r ∧ t.n = (r.length : Int) ∧ t.L = s.L ∧ ∀ {p g lp : Nat} (w' : World), One w p g lp s w' →
      Calls Try.prog 13 #[.pointer (some ⟨lp, 0, none⟩), .pointer (some ⟨p, 0, none⟩)] w' fun e w2 => e = .returned (.tuple #[.int .u64 (x : Int), .int .i64 0]) ∧ One w p g lp t w2 ∧ Upd (fun b => b = lp) w' w2 := by
  have hh := hc.head_le hL
  obtain ⟨rfl, h0, h8, hc⟩ := hc
  have e : popN s = (⟨s.L, linkAt s.L s.h, s.n - 1⟩, s.h, 0) := by unfold popN; rw [if_neg (by omega), if_pos h8]
  refine ⟨⟨s.L, linkAt s.L s.h, s.n - 1⟩, hc, by show s.n - 1 = _; omega, rfl, fun {p g lp} w' o => ?_⟩
  have := C.pop w' o.below o.mem o.lst (by show s.h ≤ 18446744073709551615; omega) ⟨by omega, by omega⟩
  rw [e] at this
  exact this.mono fun e w2 ⟨he, hl, hu⟩ => ⟨he, o.turn (t := ⟨s.L, linkAt s.L s.h, s.n - 1⟩) (o.mem.upd hu (o.mem.pnl o.lst).1.symm (o.mem.pnl o.lst).2.symm) hl hu (fun b h => Or.inr h), hu⟩
theorem pop_none {w : World} (C : Li w) {s : LS} (hn : s.n = 0) (hh : s.h ≤ 1048576) {p g lp : Nat} (w' : World) (o : One w p g lp s w') :
    Calls Try.prog 13 #[.pointer (some ⟨lp, 0, none⟩), .pointer (some ⟨p, 0, none⟩)] w' fun e w2 => e = .returned (.tuple #[.int .u64 0, .int .i64 5]) ∧ One w p g lp s w2 ∧ Upd (fun b => b = lp) w' w2 := by
  have e : popN s = (s, 0, 5) := by unfold popN; rw [if_pos hn]
  have := C.pop w' o.below o.mem o.lst (by show s.h ≤ 18446744073709551615; omega) ⟨by omega, by omega⟩
  rw [e] at this
  exact this.mono fun e w2 ⟨he, hl, hu⟩ => ⟨he, o.turn (t := s) (o.mem.upd hu (o.mem.pnl o.lst).1.symm (o.mem.pnl o.lst).2.symm) hl hu (fun b h => Or.inr h), hu⟩
theorem all_ok {w : World} (C : Li w) {s : LS} {r : List Nat} (hc : Chain s.L s.h r) (hL : s.L.length ≤ 1048576) (hn : s.n = (r.length : Int)) (hr : r.length ≤ s.L.length) {p g lp : Nat} (w' : World) (o : One w p g lp s w') :
    Calls Try.prog 15 #[.pointer (some ⟨lp, 0, none⟩), .pointer (some ⟨p, 0, none⟩)] w' fun e w2 => ∃ a cap, e = .returned (.tuple #[.slice a r.length cap, .int .i64 0]) ∧ Seq Elem.u64s w2 (.slice a r.length cap) r ∧ r.length ≤ cap ∧ cap ≤ 9223372036854775807 ∧ (∀ b, In (.slice a r.length cap) b → w'.heap.size ≤ b) ∧ Below w'.heap.size w' w2 := by
  have hall : allN s = some r := allN_chain hc hn hr
  have := C.all w' o.below o.mem o.lst (by have := hc.head_le hL; show s.h ≤ 18446744073709551615; omega) ⟨by omega, by omega⟩
  rw [hall] at this
  refine this.mono fun e w2 ⟨a, k, cap, h1, h2, h3, h4, h5, h6⟩ => ?_
  have hk := h2.len
  simp only [Option.getD_some] at hk h2
  subst hk
  exact ⟨a, cap, h1, h2, h3, h4, h5, h6⟩
theorem vec_newAt (w : World) (t : TypeId) (g : Nat) (hg : g = w.heap.size) : Vec Elem.u64s (w.alloc (.cells #[] t)) (.slice (some ⟨g, 0, none⟩) 0 0) [] := by subst hg; exact Vec.new w t
theorem One.behind {w w' w2 : World} {p g lp : Nat} {s : LS} {S : Nat → Prop} (h : One w p g lp s w') (u : Upd S w' w2) (hS : ∀ b, S b → lp < b) (hp : p < lp) (hg : g < lp) : One w p g lp s w2 :=
  ⟨h.mem.upd u (fun hb => by have := hS _ hb; omega) (fun hb => by have := hS _ hb; omega), h.lst.upd u (fun hb => by have := hS _ hb; omega), h.fp, h.fg, h.fl, h.below.trans (u.below (fun b hb => by have := hS b hb; have := h.fl; omega) h.below.size)⟩
/-- A new memory of so many bytes. -/
theorem new2048 (w : World) : Calls Try.prog 11 #[.int .u64 2048] w fun e w' => ∃ p g L, e = .returned (.tuple #[.pointer (some ⟨p, 0, none⟩), .int .i64 0]) ∧ IsMem w' p g L ∧ L = MemMath.rep 2048 0 ∧ L.length = 2048 ∧ w.heap.size ≤ p ∧ w.heap.size ≤ g ∧ Below w.heap.size w w' :=
  (new_ok 2048 (by decide) (by decide) (by decide) w).mono fun e w' ⟨p, g, h1, h2, h3, h4, h5⟩ => ⟨p, g, _, h1, h2, rfl, MemMath.length_rep _ _, h3, h4, h5.below (fun _ h => h.elim) (Nat.le_refl _)⟩
end Go.Proofs.Ytmnnmgphiiedgaa
