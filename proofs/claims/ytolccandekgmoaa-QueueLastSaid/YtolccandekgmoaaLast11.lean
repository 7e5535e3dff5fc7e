/- A row cut at its last number (for QueueLast). -/
import Derived.Test.YtolccandekgmoaaQueueCl
namespace Go.Proofs.Ytolccandekgmoaa
open Go.RowKit QueueMath
set_option linter.unusedVariables false

theorem sizeI11 : ∀ w, (sizeOf (Try.prog.elem 23)).run Try.prog w = .ok Elem.ints.size w := fun w => by kernel_rfl
theorem cut11 (a : Option Addr) (n cap k : Nat) (hk : k ≤ cap) : ∀ w, (Instr.slice 23 (.slice a n cap) none (some (.int .i64 (k : Int))) none).run Try.prog w = .ok (.slice a k cap) w := fun w => by
  rw [run_slice_h (P := Try.prog) (w := w) 23 a n cap Try.underlying23 .i64 (k : Int) (by omega) (by omega), sizeI11]
  simp only [Result.andThen_ok, sliced, Int.toNat_natCast, Nat.sub_zero, addr_at0, ite_self]
theorem Arr.last {w : World} {a : Option Addr} {n c : Nat} {l : List Int} {x : Int} (h : Arr w (.slice a n c) (l ++ [x])) : ∃ b off, a = some ⟨b, off, none⟩ ∧ n = l.length + 1 ∧ w.cell? ⟨b, off + l.length, none⟩ = some (.int .i64 x) ∧ Seq Elem.ints w (.slice a l.length c) l := by
  have hn := h.seq.len
  rw [List.length_append] at hn
  obtain ⟨b, off, y, ea, hy, _, _, hc⟩ := h.at (t := l.length) (by simp)
  rw [List.getElem?_append_right (Nat.le_refl _), Nat.sub_self] at hy
  injection hy with hy
  subst hy
  obtain ⟨sv, hs, _, hq⟩ := cut_to (E := Elem.ints) (P := Try.prog) 23 Try.underlying23 sizeI11 a n c l.length (by obtain ⟨_, _, _, e, h1, h2⟩ := h.cap; injection e with _ e2 e3; subst e2 e3; simp at hn; omega)
  have e := cut11 a n c l.length (by obtain ⟨_, _, _, e, h1, h2⟩ := h.cap; injection e with _ e2 e3; subst e2 e3; simp at hn; omega) w
  rw [hs w] at e
  injection e with e _
  have h3 := hq w _ h.seq (by simp at hn; omega)
  rw [e, List.take_left] at h3
  exact ⟨b, off, ea, by simpa using hn, hc, h3⟩
end Go.Proofs.Ytolccandekgmoaa
