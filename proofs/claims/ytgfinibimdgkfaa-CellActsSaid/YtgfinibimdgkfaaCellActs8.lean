/- Layer 8: a cell beside an act's block; acts that come in. -/
import Derived.Test.YtgfinibimdgkfaaCellSwapsWalk
namespace Go.Proofs.Ytgfinibimdgkfaa
open Go.RowKit
set_option linter.unusedVariables false

structure OA (w : World) (b x t : Nat) (n : Int) (bc : Nat) (act : Array Value) (w' : World) : Prop where
  oc : OC w b x t n w'
  ac : Blk w' bc 32 act
  ne : bc ≠ b
theorem OA.turn {w w' w2 : World} {b x t y s : Nat} {n m : Int} {bc : Nat} {act : Array Value} (h : OA w b x t n bc act w') (c : CC w2 b 0 y s m) (W : Wrt (fun _ => False) (CPl b 0) w' w2) : OA w b y s m bc act w2 :=
  ⟨h.oc.turn c W, h.ac.upd W.upd (by rintro (e | ⟨i, e, _⟩); exact e; exact h.ne e), h.ne⟩
theorem OA.grew {w w' w2 : World} {b x t : Nat} {n : Int} {bc : Nat} {act : Array Value} (h : OA w b x t n bc act w') (hb : Below w'.heap.size w' w2) : OA w b x t n bc act w2 := ⟨h.oc.grew hb, h.ac.grew hb, h.ne⟩
theorem OC.act {w w' : World} {b x t : Nat} {n : Int} (h : OC w b x t n w') (act : Array Value) {bc : Nat} (e : w'.heap.size = bc) : OA w b x t n bc act (w'.alloc (.cells act 32)) := by
  subst e
  exact ⟨h.grew ((Below.refl _ w').alloc (Nat.le_refl _) _), Blk.new w' _ _, by have := h.cc.lt; omega⟩
section
variable {w : World} {b x t : Nat} {n : Int} {bc : Nat} {act : Array Value}
theorem oa_load (C : Ce w) (hn : AskB n) (w' : World) (h : OA w b x t n bc act w') : Calls Try.prog 14 #[.pointer (some ⟨b, 0, none⟩)] w' fun e w2 => e = .returned (.tuple #[.int .u64 (x : Int), .int .u64 (t : Int)]) ∧ OA w b x t (n + 1) bc act w2 :=
  (C.load w' h.oc.below h.oc.cc hn).mono fun e w2 ⟨h1, h2, h3⟩ => ⟨h1, h.turn h2 h3⟩
theorem oa_store (C : Ce w) (hn : AskB n) (ht : TagB t) {y : Nat} (hy : y ≤ 18446744073709551615) (w' : World) (h : OA w b x t n bc act w') : Calls Try.prog 9 #[.pointer (some ⟨b, 0, none⟩), .int .u64 (y : Int)] w' fun e w2 => e = .returned (.tuple #[]) ∧ OA w b y (t + 1) (n + 1) bc act w2 :=
  (C.store w' h.oc.below y h.oc.cc hn ht hy).mono fun e w2 ⟨h1, h2, h3⟩ => ⟨h1, h.turn h2 h3⟩
theorem oa_swap (C : Ce w) (hn : AskB n) (ht : TagB t) {y : Nat} (hy : y ≤ 18446744073709551615) (w' : World) (h : OA w b x t n bc act w') : Calls Try.prog 11 #[.pointer (some ⟨b, 0, none⟩), .int .u64 (y : Int)] w' fun e w2 => e = .returned (.int .u64 (x : Int)) ∧ OA w b y (t + 1) (n + 1) bc act w2 :=
  (C.swap w' h.oc.below y h.oc.cc hn ht hy).mono fun e w2 ⟨h1, h2, h3⟩ => ⟨h1, h.turn h2 h3⟩
theorem oa_cas (C : Ce w) (hn : AskB n) (ht : TagB t) {g y : Nat} (hg : g ≤ 18446744073709551615) (hy : y ≤ 18446744073709551615) (w' : World) (h : OA w b x t n bc act w') : Calls Try.prog 12 #[.pointer (some ⟨b, 0, none⟩), .int .u64 (g : Int), .int .u64 (y : Int)] w' fun e w2 => e = .returned (.bool (decide (g = t))) ∧ OA w b (if g = t then y else x) (if g = t then t + 1 else t) (n + 1) bc act w2 :=
  (C.cas w' h.oc.below g y h.oc.cc hn ht hg hy).mono fun e w2 ⟨h1, h2, h3⟩ => ⟨h1, h.turn h2 h3⟩
end
theorem i64_bd8 {n : Int} (h : (Lit.int .i64 n).wf = true) : -9223372036854775808 ≤ n ∧ n ≤ 9223372036854775807 := by
  simp [Lit.wf, IntKind.min, IntKind.max, IntKind.signed, IntKind.bits] at h; omega
theorem act8 {w : World} {a : Option Addr} {n cap len : Nat} {F : Nat → Nat → Value} (h : Recs w (.slice a n cap) [.num .i64, .num .u64, .num .u64] len F) {i : Nat} (hi : i < len) :
    ∃ b off k, ∃ g X : Nat, a = some ⟨b, off, none⟩ ∧ (∀ w', Below w.heap.size w w' → w'.cell? ⟨b, off + i * 3, none⟩ = some (.int .i64 k) ∧ w'.cell? ⟨b, off + i * 3 + 1, none⟩ = some (.int .u64 (g : Int)) ∧ w'.cell? ⟨b, off + i * 3 + 2, none⟩ = some (.int .u64 (X : Int))) ∧ (-9223372036854775808 ≤ k ∧ k ≤ 9223372036854775807) ∧ g ≤ 18446744073709551615 ∧ X ≤ 18446744073709551615 := by
  obtain ⟨b, off, rfl, hc⟩ := h.elem hi
  have c0 := hc 0 (by simp)
  have c1 := hc 1 (by simp)
  have c2 := hc 2 (by simp)
  have l0 := leaf_int (h.leaf hi 0 _ rfl)
  have l1 := leaf_int (h.leaf hi 1 _ rfl)
  have l2 := leaf_int (h.leaf hi 2 _ rfl)
  rw [l0.1] at c0
  rw [l1.1, (u64_bd2 l1.2).1] at c1
  rw [l2.1, (u64_bd2 l2.2).1] at c2
  exact ⟨b, off, _, _, _, rfl, fun w' hb => ⟨cell_later c0 (Nat.le_refl _) hb, cell_later c1 (Nat.le_refl _) hb, cell_later c2 (Nat.le_refl _) hb⟩, i64_bd8 l0.2, (u64_bd2 l1.2).2, (u64_bd2 l2.2).2⟩
end Go.Proofs.Ytgfinibimdgkfaa
