/- The document's own cell (allotmentref08): word, Load, Swap, Cas: contracts. -/
import Derived.Test.YtgfinibimdgkfaaCell8
import Derived.Deep.Draws
namespace Go.Proofs.Ytgfinibimdgkfaa
open Go.RowKit
set_option linter.unusedVariables false

/-- The document's cell: all words that were there, how often it was asked; its words lie in no block of A. -/
def RC (A : Nat → Prop) (w : World) (cp : Nat) (L : List Nat) (n : Int) : Prop :=
  ∃ a cap, Blk w cp 30 #[.slice a L.length cap, .int .i64 n] ∧ Vec Elem.u64s w (.slice a L.length cap) L ∧ ∀ j, In (.slice a L.length cap) j → j ≠ cp ∧ ¬ A j
/-- The last of the words. -/
def lastW (L : List Nat) : Nat := L.getD (L.length - 1) 0
theorem RC.lt {A : Nat → Prop} {w : World} {cp : Nat} {L : List Nat} {n : Int} (h : RC A w cp L n) : cp < w.heap.size := by obtain ⟨a, cap, k, _⟩ := h; exact k.lt
theorem RC.upd {A S : Nat → Prop} {w w' : World} {cp : Nat} {L : List Nat} {n : Int} (h : RC A w cp L n) (u : Upd S w w') (hc : ¬ S cp) (hA : ∀ j, S j → A j) : RC A w' cp L n := by
  obtain ⟨a, cap, k, v, hin⟩ := h
  exact ⟨a, cap, k.upd u hc, v.upd u (fun j hj hs => (hin j hj).2 (hA j hs)), hin⟩
theorem RC.grew {A : Nat → Prop} {w w' : World} {cp : Nat} {L : List Nat} {n : Int} (h : RC A w cp L n) (hb : Below w.heap.size w w') : RC A w' cp L n := h.upd (updFalse_of hb) id (fun _ h => h.elim)
theorem RC.also {A : Nat → Prop} {w : World} {cp : Nat} {L : List Nat} {n : Int} (h : RC A w cp L n) {bc : Nat} (hb : w.heap.size ≤ bc) : RC (fun j => A j ∨ j = bc) w cp L n := by
  obtain ⟨a, cap, k, v, hin⟩ := h
  exact ⟨a, cap, k, v, fun j hj => ⟨(hin j hj).1, fun x => by rcases x with x | rfl; exact (hin j hj).2 x; have := v.lt hj; omega⟩⟩
theorem RC.less {A A' : Nat → Prop} {w : World} {cp : Nat} {L : List Nat} {n : Int} (h : RC A w cp L n) (hA : ∀ j, A' j → A j) : RC A' w cp L n := by
  obtain ⟨a, cap, k, v, hin⟩ := h
  exact ⟨a, cap, k, v, fun j hj => ⟨(hin j hj).1, fun x => (hin j hj).2 (hA j x)⟩⟩
theorem RC.drewN {A : Nat → Prop} {w : World} {cp : Nat} {L : List Nat} {n : Int} (h : RC A w cp L n) (k : Nat) : RC A (w.drewN k) cp L n := h
theorem RC.ask {A : Nat → Prop} {w : World} {cp : Nat} {L : List Nat} {n : Int} (h : RC A w cp L n) (m : Int) : RC A (w.setCell ⟨cp, 1, none⟩ (.int .i64 m)) cp L m := by
  obtain ⟨a, cap, k, v, hin⟩ := h
  exact ⟨a, cap, k.put 1 _, v.upd ((Upd.refl (fun b => b = cp) w).setCell (.inl rfl) _) (fun j hj => (hin j hj).1), hin⟩
theorem RC.c1 {A : Nat → Prop} {w : World} {cp : Nat} {L : List Nat} {n : Int} (h : RC A w cp L n) : w.cell? ⟨cp, 1, none⟩ = some (.int .i64 n) := by obtain ⟨a, cap, k, v, hin⟩ := h; exact k.cell 1
theorem RC.frozen {A : Nat → Prop} {w : World} {cp : Nat} {L : List Nat} {n : Int} (h : RC A w cp L n) (i : Nat) : w.frozen? ⟨cp, i, none⟩ = false := by obtain ⟨a, cap, k, v, hin⟩ := h; exact k.frozen i
theorem RC.bytes {A : Nat → Prop} {w : World} {cp : Nat} {L : List Nat} {n : Int} (h : RC A w cp L n) : L.length ≤ 9223372036854775807 := by
  obtain ⟨a, cap, k, v, hin⟩ := h
  obtain ⟨_, _, e, h1, h2⟩ := v.slice'
  injection e with e1 e2 e3; omega
theorem ref_word (w : World) {A : Nat → Prop} {cp : Nat} {L : List Nat} {n : Int} (h : RC A w cp L n) :
    Calls Try.prog 18 #[.pointer (some ⟨cp, 0, none⟩)] w fun e w' => e = .returned (.int .u64 (lastW L : Int)) ∧ ∃ m, w' = w.drewN m := by
  have hbig := h.bytes
  obtain ⟨a, cap, k, v, hin⟩ := h
  have c0 : w.cell? ⟨cp, 0, none⟩ = some (.slice a L.length cap) := k.cell 0
  obtain ⟨N, hN⟩ : ∃ N, L.length = N := ⟨_, rfl⟩
  rw [hN] at c0 hbig
  by_cases h0 : N = 0
  · subst h0
    obtain rfl := List.length_eq_zero_iff.1 hN
    clear k v hin hN
    go_enter Try.func18, Try.ntmps18
    go_wp2
    go_ret
    exact ⟨rfl, 0, rfl⟩
  · have t1 : ((N : Int) == 0) = false := by rw [beq_eq_false_iff_ne]; omega
    obtain ⟨j, hj⟩ : ∃ j, N - 1 = j := ⟨_, rfl⟩
    have hlast : L[j]? = some (lastW L) := by
      unfold lastW
      rw [hN, hj, List.getD_eq_getElem?_getD, List.getElem?_eq_getElem (by omega)]; rfl
    obtain ⟨X, hX⟩ : ∃ X, lastW L = X := ⟨_, rfl⟩
    rw [hX] at hlast ⊢
    obtain ⟨b, off, rfl, hc⟩ := v.seq.elem hlast
    have d0 := hc 0 (.int .u64 (X : Int)) rfl
    simp only [Elem.u64s, Nat.add_zero, Nat.mul_one] at d0
    have e1 : (N : Int) - 1 = (j : Int) := by omega
    have j1 : (j : Int) < (N : Int) := by omega
    have j0 : (0 : Int) ≤ (j : Int) := by omega
    clear k v hin hc hX hlast hj hN h0
    go_enter Try.func18, Try.ntmps18
    go_wp2
    go_quiet (fail)
    go_wp2
    go_ret
    exact ⟨rfl, nq, rfl⟩
theorem ref_cload (w : World) {A : Nat → Prop} {cp : Nat} {L : List Nat} {n : Int} (h : RC A w cp L n) (hn : AskB n) :
    Calls Try.prog 15 #[.pointer (some ⟨cp, 0, none⟩)] w fun e w' => e = .returned (.tuple #[.int .u64 (lastW L : Int), .int .u64 (L.length : Int)]) ∧ RC A w' cp L (n + 1) ∧ Upd (fun b => b = cp) w w' := by
  have c1 := h.c1; have f1 := h.frozen 1
  obtain ⟨hn0, hn1⟩ := hn
  have R1 := Lib.hid (h.ask (n + 1))
  have U1 := Lib.hid ((Upd.refl (fun b => b = cp) w).setCell (p := ⟨cp, 1, none⟩) (.inl rfl) (.int .i64 (n + 1)))
  have hbig := h.bytes
  obtain ⟨N, hN⟩ : ∃ N, L.length = N := ⟨_, rfl⟩
  have HN := Lib.hid hN
  have cc : ∃ a cap, (w.setCell ⟨cp, 1, none⟩ (.int .i64 (n + 1))).cell? ⟨cp, 0, none⟩ = some (.slice a N cap) := by
    obtain ⟨a, cap, k, _⟩ := R1.out
    rw [hN] at k
    exact ⟨a, cap, k.cell 0⟩
  obtain ⟨a, cap, c0⟩ := cc
  rw [hN] at hbig ⊢
  have w9 : IntKind.u64.wrap (N : Int) = (N : Int) := u64_in _ ⟨by omega, by omega⟩
  clear h hN
  obtain ⟨W1, hW1⟩ : ∃ W1, w.setCell ⟨cp, 1, none⟩ (.int .i64 (n + 1)) = W1 := ⟨_, rfl⟩
  have HW1 := Lib.hid hW1
  rw [hW1] at R1 U1 c0
  clear hW1
  have WD := Lib.hid (fun (k : Nat) => ref_word (W1.drewN k) (R1.out.drewN k))
  obtain ⟨X, hX⟩ : ∃ X, lastW L = X := ⟨_, rfl⟩
  rw [hX] at WD ⊢
  go_enter Try.func15, Try.ntmps15
  go_wp2
  rw [HW1.out]
  go_quiet (exact Calls.quiet_of (WD.out _))
  go_wp2
  go_ret2
  exact ⟨rfl, R1.out.drewN nq, ⟨U1.out.os, U1.out.tape, U1.out.output, U1.out.size, U1.out.block⟩⟩
set_option maxHeartbeats 1000000 in
theorem ref_cswap (w : World) {A : Nat → Prop} {cp : Nat} {L : List Nat} {n : Int} (h : RC A w cp L n) (hA : ∀ j, A j → j < w.heap.size) (hL : L.length ≤ 1000) (hn : AskB n) (y : Nat) (hy : y ≤ 18446744073709551615) :
    Calls Try.prog 10 #[.pointer (some ⟨cp, 0, none⟩), .int .u64 (y : Int)] w fun e w' => e = .returned (.int .u64 (lastW L : Int)) ∧ RC A w' cp (L ++ [y]) (n + 1) ∧ Upd (fun b => b = cp) w w' := by
  have c1 := h.c1; have f1 := h.frozen 1
  obtain ⟨hn0, hn1⟩ := hn
  have R1 := Lib.hid (h.ask (n + 1))
  have U1 := Lib.hid ((Upd.refl (fun b => b = cp) w).setCell (p := ⟨cp, 1, none⟩) (.inl rfl) (.int .i64 (n + 1)))
  have HA := Lib.hid hA
  obtain ⟨i0, hi, hz0, hz1, hz2⟩ := info_parts infoU64
  obtain ⟨W1, hW1⟩ : ∃ W1, w.setCell ⟨cp, 1, none⟩ (.int .i64 (n + 1)) = W1 := ⟨_, rfl⟩
  have HW1 := Lib.hid hW1
  rw [hW1] at R1 U1
  clear hW1 h hA
  have WD := Lib.hid ((ref_word W1 R1.out).mono fun e w' ⟨h1, m, h2⟩ => (show e = Ending.returned (.int .u64 (lastW L : Int)) ∧ RC A w' cp L (n + 1) ∧ Upd (fun b => b = cp) w w' from ⟨h1, by rw [h2]; exact R1.out.drewN m, by rw [h2]; exact ⟨U1.out.os, U1.out.tape, U1.out.output, U1.out.size, U1.out.block⟩⟩))
  obtain ⟨X, hX⟩ : ∃ X, lastW L = X := ⟨_, rfl⟩
  rw [hX] at WD ⊢
  clear hX
  go_enter Try.func10, Try.ntmps10
  go_wp2_with fail
  rw [HW1.out]
  refine WD.out.mono ?_; rintro e w2 ⟨rfl, hr, hu⟩
  obtain ⟨a, cap, k, v, hin⟩ := hr
  have U2 := Lib.hid hu
  have c0 : w2.cell? ⟨cp, 0, none⟩ = some (.slice a L.length cap) := k.cell 0
  obtain ⟨b2, hb2⟩ : ∃ b, w2.heap.size = b := ⟨_, rfl⟩
  obtain ⟨N, hN⟩ : ∃ N, L.length = N := ⟨_, rfl⟩
  have HN := Lib.hid hN
  have hcp := k.lt
  rw [hN] at c0 v k hL
  have K2 := Lib.hid k
  have c0a : (w2.alloc (.cells #[] 24)).cell? ⟨cp, 0, none⟩ = some (.slice a N cap) := (k.alloc _).cell 0
  have VN : Vec Elem.u64s (w2.alloc (.cells #[] 24)) (.slice (some ⟨b2, 0, none⟩) 0 0) [] := by rw [← hb2]; exact Vec.new w2 _
  have SL : Seq Elem.u64s (w2.alloc (.cells #[] 24)) (.slice a N cap) L := v.seq.alloc _
  have VN := Lib.hid VN; have SL := Lib.hid SL
  have HB2 := Lib.hid hb2
  clear hu hin v k hN c1 f1
  go_wp2_with (at_builtin; first
    | (refine wpList_append_vec (E := Elem.u64s) rfl (.tmp 16) (.tmp 20) 28 rfl 24 i0 (.int .u64 0) 8 Try.underlying28 hi hz0 hz1 hz2 rfl (.slice (some ⟨b2, 0, none⟩) 0 0) (.slice a N cap) [] L rfl rfl VN.out SL.out ?_ ?_ ?_
       · rw [HN.out]; simp only [maxLen, List.length_nil]; omega
       · rw [HN.out]; simp only [List.length_nil]; omega
       intro v1 w3 hv1 hu1 hin1
       have B3 : Hid (Below w2.heap.size w2 w3) := Lib.hid (((Below.refl _ w2).alloc (Nat.le_refl _) _).trans (hu1.below (fun j hj => by injection hj with e; subst e; rw [HB2.out]; exact Nat.le_refl _) (by simp)))
       have N3 : Hid (∀ j, In v1 j → w2.heap.size ≤ j) := Lib.hid (fun j hj => by rcases hin1 j hj with x | x; (injection x with e; subst e; rw [HB2.out]; exact Nat.le_refl _); (simp at x; omega))
       have V3 := Lib.hid hv1
       clear hv1 hu1 hin1)
    | (refine wpList_append_vec (E := Elem.u64s) rfl (.tmp 21) (.tmp 23) 28 rfl 24 i0 (.int .u64 0) 8 Try.underlying28 hi hz0 hz1 hz2 rfl v1 (.slice (some ⟨w3.heap.size, 0, none⟩) 1 1) ([] ++ L) [y] rfl rfl (V3.out.alloc _) (u64_oneAt _ _ y _ rfl) ?_ ?_ ?_
       · rw [List.nil_append, HN.out]; simp only [maxLen, List.length_cons, List.length_nil]; omega
       · rw [List.nil_append, HN.out]; simp only [List.length_cons, List.length_nil]; omega
       intro v2 w4 hv2 hu2 hin2
       rw [List.nil_append] at hv2
       have B4 : Hid (Below w2.heap.size w2 w4) := Lib.hid (((B3.out.alloc B3.out.size _)).trans (hu2.below (fun j hj => N3.out j hj) (Nat.le_trans B3.out.size (by simp))))
       have N4 : Hid (∀ j, In v2 j → w2.heap.size ≤ j) := Lib.hid (fun j hj => by rcases hin2 j hj with x | x; exact N3.out j x; (have := B3.out.size; simp at x; omega))
       obtain ⟨a4, cap4, rfl, _, _⟩ := hv2.slice'
       have V4 := Lib.hid hv2
       have K4 := Lib.hid (K2.out.grew B4.out)
       have d0 : w4.cell? ⟨cp, 0, none⟩ = some (.slice a N cap) := K4.out.cell 0
       have g0 : w4.frozen? ⟨cp, 0, none⟩ = false := K4.out.frozen 0
       clear hv2 hu2 hin2))
  go_ret
  have V5 := V4.out
  have N5 := N4.out
  simp only [List.length_append, List.length_cons, List.length_nil, Nat.zero_add] at V5 N5
  refine ⟨rfl, ?_, ((U2.out.trans ((updFalse_of B4.out).mono fun _ h => h.elim)).setCell (p := ⟨cp, 0, none⟩) (.inl rfl) _)⟩
  unfold RC
  simp only [List.length_append, List.length_cons, List.length_nil, Nat.zero_add]
  refine ⟨a4, cap4, K4.out.put 0 _, V5.upd ((Upd.refl (fun b => b = cp) w4).setCell (.inl rfl) _) (fun j hj e => ?_), fun j hj => ⟨fun e => ?_, fun x => ?_⟩⟩
  · have := N5 j hj; omega
  · have := N5 j hj; omega
  · have := N5 j hj; have := HA.out j x; have := U2.out.size; omega
/-- What is there behind a Cas. -/
def casL (L : List Nat) (g y : Nat) : List Nat := if g = L.length then L ++ [y] else L
theorem ref_ccas (w : World) {A : Nat → Prop} {cp : Nat} {L : List Nat} {n : Int} (h : RC A w cp L n) (hA : ∀ j, A j → j < w.heap.size) (hL : L.length ≤ 1000) (hn : AskB n) (g y : Nat) (hg : g ≤ 18446744073709551615) (hy : y ≤ 18446744073709551615) :
    Calls Try.prog 13 #[.pointer (some ⟨cp, 0, none⟩), .int .u64 (g : Int), .int .u64 (y : Int)] w fun e w' => e = .returned (.bool (decide (g = L.length))) ∧ RC A w' cp (casL L g y) (n + 1) ∧ Upd (fun b => b = cp) w w' := by
  have SW := Lib.hid (ref_cswap w h hA hL hn y hy)
  have R1 := Lib.hid (h.ask (n + 1))
  have U1 := Lib.hid ((Upd.refl (fun b => b = cp) w).setCell (p := ⟨cp, 1, none⟩) (.inl rfl) (.int .i64 (n + 1)))
  have c1 := h.c1; have f1 := h.frozen 1
  obtain ⟨hn0, hn1⟩ := hn
  have hc : ∃ a cap, w.cell? ⟨cp, 0, none⟩ = some (.slice a L.length cap) := by obtain ⟨a, cap, k, _⟩ := h; exact ⟨a, cap, k.cell 0⟩
  obtain ⟨a, cap, c0⟩ := hc
  clear h hA
  unfold casL
  obtain ⟨N, hN⟩ : ∃ N, L.length = N := ⟨_, rfl⟩
  rw [hN] at c0 hL ⊢
  have w9 : IntKind.u64.wrap (N : Int) = (N : Int) := u64_in _ ⟨by omega, by omega⟩
  clear hN
  by_cases hgt : g = N
  · rw [decide_eq_true hgt, if_pos hgt]
    have t1 : ((g : Int) != (N : Int)) = false := by rw [hgt]; simp
    clear hgt R1 U1
    go_enter Try.func13, Try.ntmps13
    go_wp2_with fail
    refine SW.out.mono ?_; rintro e w1 ⟨rfl, k1, k2⟩
    have K := Lib.hid k1; have W2 := Lib.hid k2
    clear k1 k2 c1 f1 c0
    go_wp2
    go_ret
    exact ⟨rfl, K.out, W2.out⟩
  · rw [decide_eq_false hgt, if_neg hgt]
    have t1 : ((g : Int) != (N : Int)) = true := by rw [bne_iff_ne]; omega
    clear hgt SW
    go_enter Try.func13, Try.ntmps13
    go_wp2
    go_ret
    exact ⟨rfl, R1.out, U1.out⟩
end Go.Proofs.Ytgfinibimdgkfaa
