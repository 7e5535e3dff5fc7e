/- The program's own cells: Load, Store, Swap, Cas, Asked: contracts. -/
import Derived.Test.YtgaecgijmnkdgaaCellCl
import Derived.WalkKit
import Derived.Deep.QuietTactic
import Derived.BigQuiet
namespace Go.Proofs.Ytgaecgijmnkdgaa
open Go.RowKit
set_option linter.unusedVariables false
section
variable {w : World} {b o x t : Nat} {n : Int}
theorem CC.c0 (h : CC w b o x t n) : w.cell? ⟨b, o, none⟩ = some (.int .u64 (x : Int)) := by obtain ⟨ty, cs, k, e0, e1, e2⟩ := h; rw [k.cell]; exact e0
theorem CC.c1 (h : CC w b o x t n) : w.cell? ⟨b, o + 1, none⟩ = some (.int .u64 (t : Int)) := by obtain ⟨ty, cs, k, e0, e1, e2⟩ := h; rw [k.cell]; exact e1
theorem CC.c2 (h : CC w b o x t n) : w.cell? ⟨b, o + 2, none⟩ = some (.int .i64 n) := by obtain ⟨ty, cs, k, e0, e1, e2⟩ := h; rw [k.cell]; exact e2
theorem CC.frozen (h : CC w b o x t n) (i : Nat) : w.frozen? ⟨b, i, none⟩ = false := by obtain ⟨ty, cs, k, e0, e1, e2⟩ := h; exact k.frozen i
theorem CC.word (h : CC w b o x t n) (y : Nat) : CC (w.setCell ⟨b, o, none⟩ (.int .u64 (y : Int))) b o y t n := by
  obtain ⟨ty, cs, k, e0, e1, e2⟩ := h
  refine ⟨ty, _, k.put o _, ?_, ?_, ?_⟩
  · obtain ⟨l, _⟩ := Array.getElem?_eq_some_iff.1 e0
    rw [Array.getElem?_setIfInBounds_self_of_lt l]
  · rw [Array.getElem?_setIfInBounds, if_neg (by omega)]; exact e1
  · rw [Array.getElem?_setIfInBounds, if_neg (by omega)]; exact e2
theorem CC.tag (h : CC w b o x t n) (s : Nat) (v : Int) (hv : v = (s : Int)) : CC (w.setCell ⟨b, o + 1, none⟩ (.int .u64 v)) b o x s n := by
  subst hv
  obtain ⟨ty, cs, k, e0, e1, e2⟩ := h
  refine ⟨ty, _, k.put (o + 1) _, ?_, ?_, ?_⟩
  · rw [Array.getElem?_setIfInBounds, if_neg (by omega)]; exact e0
  · obtain ⟨l, _⟩ := Array.getElem?_eq_some_iff.1 e1
    rw [Array.getElem?_setIfInBounds_self_of_lt l]
  · rw [Array.getElem?_setIfInBounds, if_neg (by omega)]; exact e2
theorem CC.ask (h : CC w b o x t n) (m : Int) : CC (w.setCell ⟨b, o + 2, none⟩ (.int .i64 m)) b o x t m := by
  obtain ⟨ty, cs, k, e0, e1, e2⟩ := h
  refine ⟨ty, _, k.put (o + 2) _, ?_, ?_, ?_⟩
  · rw [Array.getElem?_setIfInBounds, if_neg (by omega)]; exact e0
  · rw [Array.getElem?_setIfInBounds, if_neg (by omega)]; exact e1
  · obtain ⟨l, _⟩ := Array.getElem?_eq_some_iff.1 e2
    rw [Array.getElem?_setIfInBounds_self_of_lt l]
end
theorem CC.drewN {w : World} {b o x t : Nat} {n : Int} (h : CC w b o x t n) (k : Nat) : CC (w.drewN k) b o x t n := h
theorem Wrt.drewN {S : Nat → Prop} {C : Nat → Nat → Prop} {w w' : World} (h : Wrt S C w w') (k : Nat) : Wrt S C w (w'.drewN k) := ⟨⟨h.upd.os, h.upd.tape, h.upd.output, h.upd.size, h.upd.block⟩, h.blk⟩
theorem cell_write (w : World) {b o x t : Nat} {n : Int} (h : CC w b o x t n) (ht : TagB t) (y : Nat) (hy : y ≤ 18446744073709551615) :
    Calls Try.prog 39 #[.pointer (some ⟨b, o, none⟩), .int .u64 (y : Int)] w fun e w' => e = .returned (.tuple #[]) ∧ CC w' b o y (t + 1) n ∧ Wrt (fun _ => False) (CPl b o) w w' := by
  have c0 := h.c0; have c1 := h.c1
  have f0 := h.frozen o; have f1 := h.frozen (o + 1)
  have HH := Lib.hid h
  have h1 : (t : Int) ≤ 1000000000 := by have : t ≤ 1000000000 := ht; omega
  clear h ht
  go_enter Try.func39, Try.ntmps39
  go_wp2
  refine bodyPost_end (results_none rfl _ _ _) rfl ?_
  exact ⟨rfl, (HH.out.word y).tag (t + 1) _ (by go_num), ((Wrt.refl _ _ w).setCell ⟨rfl, Or.inl rfl⟩ _).setCell ⟨rfl, Or.inr (Or.inl rfl)⟩ _⟩
theorem cell_load (w : World) {b o x t : Nat} {n : Int} (h : CC w b o x t n) (hn : AskB n) :
    Calls Try.prog 32 #[.pointer (some ⟨b, o, none⟩)] w fun e w' => e = .returned (.tuple #[.int .u64 (x : Int), .int .u64 (t : Int)]) ∧ CC w' b o x t (n + 1) ∧ Wrt (fun _ => False) (CPl b o) w w' := by
  have c0 := h.c0; have c1 := h.c1; have c2 := h.c2
  have f2 := h.frozen (o + 2)
  have HH := Lib.hid h
  obtain ⟨hn0, hn1⟩ := hn
  have W := Lib.hid ((Wrt.refl (fun _ => False) (CPl b o) w).setCell (b := b) (i := o + 2) ⟨rfl, Or.inr (Or.inr rfl)⟩ (.int .i64 (n + 1)))
  have K := Lib.hid (h.ask (n + 1))
  clear h
  go_enter Try.func32, Try.ntmps32
  go_wp2
  go_quiet (fail)
  go_wp2
  go_ret2
  exact ⟨rfl, K.out.drewN nq, W.out.drewN nq⟩
theorem cell_cas (w : World) {b o x t : Nat} {n : Int} (h : CC w b o x t n) (hn : AskB n) (ht : TagB t) (g y : Nat) (hg : g ≤ 18446744073709551615) (hy : y ≤ 18446744073709551615) :
    Calls Try.prog 36 #[.pointer (some ⟨b, o, none⟩), .int .u64 (g : Int), .int .u64 (y : Int)] w fun e w' => e = .returned (.bool (decide (g = t))) ∧ CC w' b o (if g = t then y else x) (if g = t then t + 1 else t) (n + 1) ∧ Wrt (fun _ => False) (CPl b o) w w' := by
  have c1 := h.c1; have c2 := h.c2
  have f2 := h.frozen (o + 2)
  obtain ⟨hn0, hn1⟩ := hn
  have W := Lib.hid ((Wrt.refl (fun _ => False) (CPl b o) w).setCell (b := b) (i := o + 2) ⟨rfl, Or.inr (Or.inr rfl)⟩ (.int .i64 (n + 1)))
  have H := Lib.hid (cell_write _ (h.ask (n + 1)) ht y hy)
  have K0 := Lib.hid (h.ask (n + 1))
  by_cases hgt : g = t
  · rw [decide_eq_true hgt, if_pos hgt, if_pos hgt]
    have t1 : ((t : Int) != (g : Int)) = false := by rw [hgt]; simp
    clear h ht hgt
    go_enter Try.func36, Try.ntmps36
    go_wp2_with fail
    refine H.out.mono ?_; rintro e w1 ⟨rfl, k1, k2⟩
    have K := Lib.hid k1; have W2 := Lib.hid (W.out.trans k2)
    clear k1 k2 c1 c2 f2
    go_wp2
    go_ret
    exact ⟨rfl, K.out, W2.out⟩
  · rw [decide_eq_false hgt, if_neg hgt, if_neg hgt]
    have t1 : ((t : Int) != (g : Int)) = true := by rw [bne_iff_ne]; omega
    clear h ht hgt H
    go_enter Try.func36, Try.ntmps36
    go_wp2
    go_ret
    exact ⟨rfl, K0.out, W.out⟩
/-- How often those ahead of the j-th were asked. -/
def askedTo (l : List (Option Addr)) (f : Addr → Int) (j : Nat) : Int := sumI ((l.take j).map fun p => p.elim 0 f)
theorem sumI_append (l m : List Int) : sumI (l ++ m) = sumI l + sumI m := by
  induction l with
  | nil => simp [sumI]
  | cons a t ih => simp only [List.cons_append, sumI, ih]; omega
theorem askedTo_next {l : List (Option Addr)} {f : Addr → Int} {j : Nat} {p : Option Addr} (h : l[j]? = some p) : askedTo l f (j + 1) = askedTo l f j + p.elim 0 f := by
  unfold askedTo
  rw [List.take_add_one, h, List.map_append, sumI_append]
  simp [sumI]
theorem askedTo_bound {l : List (Option Addr)} {f : Addr → Int} (h : ∀ p, some p ∈ l → AskB (f p)) : ∀ j, j ≤ l.length → 0 ≤ askedTo l f j ∧ askedTo l f j ≤ (j : Int) * 1000000000
  | 0, _ => by simp [askedTo, sumI]
  | j + 1, hj => by
    have ih := askedTo_bound h j (by omega)
    obtain ⟨p, hp⟩ : ∃ p, l[j]? = some p := ⟨_, List.getElem?_eq_getElem (by omega)⟩
    rw [askedTo_next hp]
    cases p with
    | none => simp only [Option.elim]; omega
    | some a => have := h a (List.mem_of_getElem? hp); obtain ⟨h1, h2⟩ := this; simp only [Option.elim]; omega
def Asking (w : World) (l : List (Option Addr)) (f : Addr → Int) (v i : Value) (wr : World) : Prop :=
  ∃ j : Nat, j ≤ l.length ∧ i = .int .i64 (j : Int) ∧ v = .int .i64 (askedTo l f j) ∧ w = wr
set_option maxHeartbeats 1000000 in
theorem cell_asked (w : World) {a : Option Addr} {k cap : Nat} (l : List (Option Addr)) (f : Addr → Int) (hq : Seq Elem.ptrs w (.slice a k cap) l) (hk : k ≤ 1000) (hc : k ≤ cap) (hm : cap ≤ 9223372036854775807) (hl : ∀ p, some p ∈ l → AskB (f p) ∧ ∃ b o x t, p = ⟨b, o, none⟩ ∧ CC w b o x t (f p)) :
    Calls Try.prog 19 #[.slice a k cap] w fun e w' => e = .returned (.int .i64 (sumI (l.map fun p => p.elim 0 f))) ∧ Below w.heap.size w w' := by
  have hlen := hq.len
  have Q := Lib.hid hq; have HL := Lib.hid hl; have HK := Lib.hid hlen
  have hbd := askedTo_bound (f := f) (fun p hp => (hl p hp).1)
  have BD := Lib.hid hbd
  obtain ⟨E, hE⟩ : ∃ E, sumI (l.map fun p => p.elim 0 f) = E := ⟨_, rfl⟩
  rw [hE]
  have HE := Lib.hid hE
  clear hq hl hlen hbd hE
  go_enter Try.func19, Try.ntmps19
  go_wp2
  go_loopw [3, 8] (fun v i wr => Asking w l f v i wr) (fun v i _ => k - (intOf i).toNat)
  case atStart => exact ⟨0, Nat.zero_le _, rfl, rfl, rfl⟩
  case round =>
    obtain ⟨j, hj, rfl, rfl, rfl⟩ := hrel
    by_cases hjk : j < k
    · obtain ⟨p, hp⟩ : ∃ p, l[j]? = some p := ⟨_, List.getElem?_eq_getElem (by rw [← HK.out]; exact hjk)⟩
      obtain ⟨b, off, rfl, hcell⟩ := Q.out.elem hp
      have c0 := hcell 0 (.pointer p) rfl
      simp only [Elem.ptrs, Nat.add_zero, Nat.mul_one] at c0
      have hnx := askedTo_next (f := f) hp
      have hb := BD.out j hj
      obtain ⟨n, hn⟩ : ∃ n, askedTo l f j = n := ⟨_, rfl⟩
      rw [hn] at hnx hb ⊢
      obtain ⟨hb0, hb1⟩ := hb
      have t1 : decide ((j : Int) < (k : Int)) = true := decide_eq_true (by omega)
      have t1' : decide (j < k) = true := decide_eq_true hjk
      have j0 : (0 : Int) ≤ (j : Int) := by omega
      have j1 : (j : Int) < (k : Int) := by omega
      have hlj : j + 1 ≤ l.length := by rw [← HK.out]; omega
      have HN := Lib.hid hn
      cases p with
      | none =>
        simp only [Option.elim, Int.add_zero] at hnx
        have NX := Lib.hid hnx; have HLJ := Lib.hid hlj
        clear hcell hp hnx hn hlj
        go_wp2
        go_roundw
        case rel => exact ⟨j + 1, HLJ.out, by go_num, by rw [NX.out], rfl⟩
        case measure => simp [intOf]; omega
      | some ad =>
        obtain ⟨hA, bb, o, x, t, rfl, hcc⟩ := HL.out ad (List.mem_of_getElem? hp)
        simp only [Option.elim] at hnx
        obtain ⟨m, hm2⟩ : ∃ m, f ⟨bb, o, none⟩ = m := ⟨_, rfl⟩
        rw [hm2] at hnx hA hcc
        obtain ⟨hA0, hA1⟩ := hA
        have d2 := hcc.c2
        have NX := Lib.hid hnx; have HLJ := Lib.hid hlj
        clear hcell hp hnx hn hlj hcc hm2
        go_wp2
        go_roundw
        case rel => exact ⟨j + 1, HLJ.out, by go_num, by rw [NX.out], rfl⟩
        case measure => simp [intOf]; omega
    · obtain rfl : j = k := by have := HK.out; omega
      have t1 : decide ((j : Int) < (j : Int)) = false := decide_eq_false (by omega)
      have hall : askedTo l f j = E := by rw [← HE.out]; unfold askedTo; rw [HK.out, List.take_length]
      rw [hall]
      clear hall
      go_wp2
      go_ret
      exact ⟨rfl, Below.refl _ _⟩
end Go.Proofs.Ytgaecgijmnkdgaa
