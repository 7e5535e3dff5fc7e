/- Layer 8: the program's cell and the document's, beside an act's block. -/
import Derived.Test.YtgfinibimdgkfaaRefC8
import Derived.Test.YtgfinibimdgkfaaCellActs8
namespace Go.Proofs.Ytgfinibimdgkfaa
open Go.RowKit
set_option linter.unusedVariables false

/-- Both cells. -/
structure A0 (w : World) (b cp : Nat) (L : List Nat) (n : Int) (w' : World) : Prop where
  oc : OC w b (lastW L) L.length n w'
  rc : RC (fun j => j = b) w' cp L n
  nb : cp ≠ b
  fc : w.heap.size ≤ cp
/-- Both, each with words of its own, and an act. -/
structure AC (w : World) (b cp bc : Nat) (act : Array Value) (L : List Nat) (n : Int) (M : List Nat) (m : Int) (w' : World) : Prop where
  oa : OA w b (lastW L) L.length n bc act w'
  rc : RC (fun j => j = b ∨ j = bc) w' cp M m
  nb : cp ≠ b
  nc : cp ≠ bc
  fc : w.heap.size ≤ cp
theorem lastW_append (L : List Nat) (y : Nat) : lastW (L ++ [y]) = y := by
  unfold lastW
  simp
theorem A0.act {w w' : World} {b cp : Nat} {L : List Nat} {n : Int} (h : A0 w b cp L n w') (act : Array Value) {bc : Nat} (e : w'.heap.size = bc) : AC w b cp bc act L n L n (w'.alloc (.cells act 32)) :=
  ⟨h.oc.act act e, (h.rc.also (Nat.le_of_eq e)).grew ((Below.refl _ w').alloc (Nat.le_refl _) _), h.nb, by have := h.rc.lt; omega, h.fc⟩
section
variable {w : World} {b cp bc : Nat} {act : Array Value} {L M : List Nat} {n m : Int}
theorem AC.end (w' : World) (h : AC w b cp bc act L n L n w') : A0 w b cp L n w' := ⟨h.oa.oc, h.rc.less (fun j x => Or.inl x), h.nb, h.fc⟩
theorem AC.grew {w' w2 : World} (h : AC w b cp bc act L n M m w') (hb : Below w'.heap.size w' w2) : AC w b cp bc act L n M m w2 := ⟨h.oa.grew hb, h.rc.grew hb, h.nb, h.nc, h.fc⟩
theorem AC.drew {w' : World} (h : AC w b cp bc act L n M m w') : AC w b cp bc act L n M m w'.drew := h.grew ⟨rfl, rfl, rfl, Nat.le_refl _, fun _ _ => rfl⟩
theorem AC.cell {w' w2 : World} (h : AC w b cp bc act L n M m w') {x t : Nat} {k : Int} {L' : List Nat} (hx : x = lastW L') (ht : t = L'.length) (c : CC w2 b 0 x t k) (W : Wrt (fun _ => False) (CPl b 0) w' w2) : AC w b cp bc act L' k M m w2 := by
  subst hx ht
  refine ⟨h.oa.turn c W, h.rc.upd W.upd ?_ ?_, h.nb, h.nc, h.fc⟩
  · rintro (e | ⟨i, e, _⟩)
    · exact e
    · exact h.nb e
  · rintro j (e | ⟨i, e, _⟩)
    · exact e.elim
    · exact Or.inl e
theorem AC.refs {w' w2 : World} (h : AC w b cp bc act L n M m w') {M' : List Nat} {k : Int} (r : RC (fun j => j = b ∨ j = bc) w2 cp M' k) (u : Upd (fun j => j = cp) w' w2) : AC w b cp bc act L n M' k w2 := by
  have hb : Below w.heap.size w' w2 := u.below (fun j hj => by rw [hj]; exact h.fc) h.oa.oc.below.size
  exact ⟨⟨⟨h.oa.oc.cc.upd u (fun e => h.nb e.symm), h.oa.oc.fb, h.oa.oc.below.trans hb⟩, h.oa.ac.upd u (fun e => h.nc e.symm), h.oa.ne⟩, r, h.nb, h.nc, h.fc⟩
theorem AC.inA {w' : World} (h : AC w b cp bc act L n M m w') : ∀ j, (j = b ∨ j = bc) → j < w'.heap.size := by
  rintro j (rfl | rfl)
  · exact h.oa.oc.cc.lt
  · exact h.oa.ac.lt
theorem ac_load (C : Ce w) (hn : AskB n) (w' : World) (h : AC w b cp bc act L n M m w') : Calls Try.prog 14 #[.pointer (some ⟨b, 0, none⟩)] w' fun e w2 => e = .returned (.tuple #[.int .u64 (lastW L : Int), .int .u64 (L.length : Int)]) ∧ AC w b cp bc act L (n + 1) M m w2 :=
  (C.load w' h.oa.oc.below h.oa.oc.cc hn).mono fun e w2 ⟨h1, h2, h3⟩ => ⟨h1, h.cell rfl rfl h2 h3⟩
theorem ac_store (C : Ce w) (hn : AskB n) (ht : TagB L.length) {y : Nat} (hy : y ≤ 18446744073709551615) (w' : World) (h : AC w b cp bc act L n M m w') : Calls Try.prog 9 #[.pointer (some ⟨b, 0, none⟩), .int .u64 (y : Int)] w' fun e w2 => e = .returned (.tuple #[]) ∧ AC w b cp bc act (L ++ [y]) (n + 1) M m w2 :=
  (C.store w' h.oa.oc.below y h.oa.oc.cc hn ht hy).mono fun e w2 ⟨h1, h2, h3⟩ => ⟨h1, h.cell (lastW_append L y).symm (by simp) h2 h3⟩
theorem ac_swap (C : Ce w) (hn : AskB n) (ht : TagB L.length) {y : Nat} (hy : y ≤ 18446744073709551615) (w' : World) (h : AC w b cp bc act L n M m w') : Calls Try.prog 11 #[.pointer (some ⟨b, 0, none⟩), .int .u64 (y : Int)] w' fun e w2 => e = .returned (.int .u64 (lastW L : Int)) ∧ AC w b cp bc act (L ++ [y]) (n + 1) M m w2 :=
  (C.swap w' h.oa.oc.below y h.oa.oc.cc hn ht hy).mono fun e w2 ⟨h1, h2, h3⟩ => ⟨h1, h.cell (lastW_append L y).symm (by simp) h2 h3⟩
theorem ac_cas (C : Ce w) (hn : AskB n) (ht : TagB L.length) {g y : Nat} (hg : g ≤ 18446744073709551615) (hy : y ≤ 18446744073709551615) (w' : World) (h : AC w b cp bc act L n M m w') : Calls Try.prog 12 #[.pointer (some ⟨b, 0, none⟩), .int .u64 (g : Int), .int .u64 (y : Int)] w' fun e w2 => e = .returned (.bool (decide (g = L.length))) ∧ AC w b cp bc act (casL L g y) (n + 1) M m w2 :=
  (C.cas w' h.oa.oc.below g y h.oa.oc.cc hn ht hg hy).mono fun e w2 ⟨h1, h2, h3⟩ => ⟨h1, h.cell (by unfold casL; split <;> simp [lastW_append]) (by unfold casL; split <;> simp) h2 h3⟩
theorem ac_rload (hm : AskB m) (w' : World) (h : AC w b cp bc act L n M m w') : Calls Try.prog 15 #[.pointer (some ⟨cp, 0, none⟩)] w' fun e w2 => e = .returned (.tuple #[.int .u64 (lastW M : Int), .int .u64 (M.length : Int)]) ∧ AC w b cp bc act L n M (m + 1) w2 :=
  (ref_cload w' h.rc hm).mono fun e w2 ⟨h1, h2, h3⟩ => ⟨h1, h.refs h2 h3⟩
theorem ac_rswap (hm : AskB m) (hM : M.length ≤ 1000) {y : Nat} (hy : y ≤ 18446744073709551615) (w' : World) (h : AC w b cp bc act L n M m w') : Calls Try.prog 10 #[.pointer (some ⟨cp, 0, none⟩), .int .u64 (y : Int)] w' fun e w2 => e = .returned (.int .u64 (lastW M : Int)) ∧ AC w b cp bc act L n (M ++ [y]) (m + 1) w2 :=
  (ref_cswap w' h.rc h.inA hM hm y hy).mono fun e w2 ⟨h1, h2, h3⟩ => ⟨h1, h.refs h2 h3⟩
theorem ac_rcas (hm : AskB m) (hM : M.length ≤ 1000) {g y : Nat} (hg : g ≤ 18446744073709551615) (hy : y ≤ 18446744073709551615) (w' : World) (h : AC w b cp bc act L n M m w') : Calls Try.prog 13 #[.pointer (some ⟨cp, 0, none⟩), .int .u64 (g : Int), .int .u64 (y : Int)] w' fun e w2 => e = .returned (.bool (decide (g = M.length))) ∧ AC w b cp bc act L n (casL M g y) (m + 1) w2 :=
  (ref_ccas w' h.rc h.inA hM hm g y hg hy).mono fun e w2 ⟨h1, h2, h3⟩ => ⟨h1, h.refs h2 h3⟩
theorem ac_asked (C : Ce w) (hn : AskB n) (w' : World) (h : AC w b cp bc act L n M m w') (a : Option Addr) (k cap : Nat) (hq : Seq Elem.ptrs w' (.slice a k cap) [some ⟨b, 0, none⟩]) (hk : k ≤ cap) (hc : cap ≤ 9223372036854775807) : Calls Try.prog 16 #[.slice a k cap] w' fun e w2 => e = .returned (.int .i64 n) ∧ AC w b cp bc act L n M m w2 := by
  have hlen := hq.len
  have := C.asked w' h.oa.oc.below [some ⟨b, 0, none⟩] (fun _ => n) hq (by rw [hlen]; simp) hk hc (by
    intro p hp
    have : p = ⟨b, 0, none⟩ := by simpa using hp
    subst this
    exact ⟨hn, b, 0, _, _, rfl, h.oa.oc.cc⟩)
  have hs : sumI ([some (⟨b, 0, none⟩ : Addr)].map fun p => p.elim 0 (fun _ => n)) = n := by simp [sumI]
  rw [hs] at this
  exact this.mono fun e w2 ⟨h1, h2⟩ => ⟨h1, h.grew h2⟩
end
theorem casL_len (L : List Nat) (g y : Nat) : (casL L g y).length ≤ L.length + 1 := by unfold casL; split <;> simp
theorem A0.new {w w1 : World} {b : Nat} (o : OC w b 0 0 0 w1) {cp : Nat} (e : w1.heap.size = cp) : A0 w b cp [] 0 (w1.alloc (.cells #[.slice none 0 0, .int .i64 0] 30)) := by
  subst e
  exact ⟨o.grew ((Below.refl _ w1).alloc (Nat.le_refl _) _), ⟨none, 0, Blk.new w1 _ _, Vec.nil _, by intro j hj; cases hj⟩, by have := o.cc.lt; omega, o.below.size⟩
end Go.Proofs.Ytgfinibimdgkfaa
