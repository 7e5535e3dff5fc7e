/- The document's own stack and moves (allotmentref13), for StackMoves: contracts. -/
import Derived.Test.YtgaecgijmnkdgaaAt13
import Derived.Test.YtgaecgijmnkdgaaStackE
namespace Go.Proofs.Ytgaecgijmnkdgaa
open Go.RowKit StackMath
set_option linter.unusedVariables false
set_option maxRecDepth 100000

/-- The document's stack at block q, its row v. -/
def RS (w : World) (q : Nat) (v : Value) (S : SS) : Prop := ∃ cs, Blk w q 51 cs ∧ cs[0]? = some v ∧ cs[1]? = some (.int .u64 (S.t : Nat)) ∧ cs[2]? = some (.int .i64 (S.n : Nat)) ∧ Vec Elem.ints w v (toI S.L) ∧ ∀ k, In v k → k ≠ q
def rmC (q : Nat) (M : MV) : Array Value := #[.pointer (some ⟨q, 0, none⟩), .int .i64 (placeE M), .int .i64 M.top, .int .u64 (M.tag : Int), .bool (!M.push), .bool M.looked, .bool M.over]
def RM (w : World) (b q : Nat) (M : MV) : Prop := Blk w b 41 (rmC q M)
section
variable {w w' : World} {q b : Nat} {v : Value} {S S' : SS} {M : MV}
theorem RS.lt (h : RS w q v S) : q < w.heap.size := by obtain ⟨cs, k, _⟩ := h; exact k.lt
theorem RS.vec (h : RS w q v S) : Vec Elem.ints w v (toI S.L) := by obtain ⟨cs, k, _, _, _, e, _⟩ := h; exact e
theorem RS.ne (h : RS w q v S) : ∀ k, In v k → k ≠ q := by obtain ⟨cs, k, _, _, _, _, e⟩ := h; exact e
theorem RS.c0 (h : RS w q v S) : w.cell? ⟨q, 0, none⟩ = some v := by obtain ⟨cs, k, e, _⟩ := h; rw [k.cell]; exact e
theorem RS.c1 (h : RS w q v S) : w.cell? ⟨q, 1, none⟩ = some (.int .u64 (S.t : Nat)) := by obtain ⟨cs, k, _, e, _⟩ := h; rw [k.cell]; exact e
theorem RS.c2 (h : RS w q v S) : w.cell? ⟨q, 2, none⟩ = some (.int .i64 (S.n : Nat)) := by obtain ⟨cs, k, _, _, e, _⟩ := h; rw [k.cell]; exact e
theorem RS.frozen (h : RS w q v S) (i : Nat) : w.frozen? ⟨q, i, none⟩ = false := by obtain ⟨cs, k, _⟩ := h; exact k.frozen i
theorem RS.upd {T : Nat → Prop} (h : RS w q v S) (u : Upd T w w') (h1 : ¬ T q) (h2 : ∀ k, In v k → ¬ T k) : RS w' q v S := by
  obtain ⟨cs, k, e0, e1, e2, e3, e4⟩ := h
  exact ⟨cs, k.upd u h1, e0, e1, e2, e3.upd u h2, e4⟩
theorem RS.grew (h : RS w q v S) (hb : Below w.heap.size w w') : RS w' q v S := h.upd (updFalse_of hb) id (fun _ _ => id)
theorem RS.alloc (h : RS w q v S) (o : Obj) : RS (w.alloc o) q v S := h.grew ((Below.refl _ w).alloc (Nat.le_refl _) o)
theorem rs_put (h : RS w q v S) (i : Nat) (u : Value) : ∃ cs, Blk w q 51 cs ∧ Blk (w.setCell ⟨q, i, none⟩ u) q 51 (cs.setIfInBounds i u) ∧ cs[0]? = some v ∧ cs[1]? = some (.int .u64 (S.t : Nat)) ∧ cs[2]? = some (.int .i64 (S.n : Nat)) := by
  obtain ⟨cs, k, e0, e1, e2, _⟩ := h
  exact ⟨cs, k, k.put i u, e0, e1, e2⟩
theorem set_get {cs : Array Value} {i j : Nat} {u x : Value} (h : cs[j]? = some x) (hij : i ≠ j) : (cs.setIfInBounds i u)[j]? = some x := by rw [Array.getElem?_setIfInBounds, if_neg hij]; exact h
theorem set_self {cs : Array Value} {i : Nat} {u x : Value} (h : cs[i]? = some x) : (cs.setIfInBounds i u)[i]? = some u := by
  obtain ⟨l, _⟩ := Array.getElem?_eq_some_iff.1 h
  rw [Array.getElem?_setIfInBounds_self_of_lt l]
theorem keep_q (h : RS w q v S) (i : Nat) (u : Value) : Vec Elem.ints (w.setCell ⟨q, i, none⟩ u) v (toI S.L) := h.vec.upd ((Upd.refl (fun k => k = q) w).setCell (.inl rfl) u) (fun k hk e => h.ne k hk e)
theorem RS.ask (h : RS w q v S) (N : Int) (n : Nat) (hN : N = (n : Int)) : RS (w.setCell ⟨q, 2, none⟩ (.int .i64 N)) q v ⟨S.L, S.B, S.t, n⟩ := by
  subst hN
  obtain ⟨cs, _, k, e0, e1, e2⟩ := rs_put h 2 (.int .i64 (n : Int))
  exact ⟨_, k, set_get e0 (by decide), set_get e1 (by decide), set_self e2, keep_q h _ _, h.ne⟩
theorem RS.tag (h : RS w q v S) (T : Int) (t : Nat) (hT : T = (t : Int)) : RS (w.setCell ⟨q, 1, none⟩ (.int .u64 T)) q v ⟨S.L, S.B, t, S.n⟩ := by
  subst hT
  obtain ⟨cs, _, k, e0, e1, e2⟩ := rs_put h 1 (.int .u64 (t : Int))
  exact ⟨_, k, set_get e0 (by decide), set_self e1, set_get e2 (by decide), keep_q h _ _, h.ne⟩
theorem RS.row (h : RS w q v S) {v' : Value} {L : List Nat} (hv : Vec Elem.ints w v' (toI L)) (hn : ∀ k, In v' k → k ≠ q) : RS (w.setCell ⟨q, 0, none⟩ v') q v' ⟨L, S.B, S.t, S.n⟩ := by
  obtain ⟨cs, _, k, e0, e1, e2⟩ := rs_put h 0 v'
  exact ⟨_, k, set_self e0, set_get e1 (by decide), set_get e2 (by decide), hv.upd ((Upd.refl (fun k => k = q) w).setCell (.inl rfl) v') (fun k hk e => hn k hk e), hn⟩
theorem RM.lt (h : RM w b q M) : b < w.heap.size := Blk.lt h
theorem RM.upd {T : Nat → Prop} (h : RM w b q M) (u : Upd T w w') (ht : ¬ T b) : RM w' b q M := Blk.upd h u ht
theorem RM.put (h : RM w b q M) (i : Nat) (u : Value) (cs : Array Value) (e : (rmC q M).setIfInBounds i u = cs) : Blk (w.setCell ⟨b, i, none⟩ u) b 41 cs := by
  subst e; exact Blk.put h i u
end
/-- What the document's calls on its stack may write. -/
abbrev QW (q : Nat) (w w' : World) : Prop := Upd (fun k => k = q) w w'
theorem QW.set {q : Nat} {w w' : World} (h : QW q w w') (i : Nat) (v : Value) : QW q w (w'.setCell ⟨q, i, none⟩ v) := h.setCell (.inl rfl) v
theorem sizeI13 : ∀ w, (sizeOf (Try.prog.elem 47)).run Try.prog w = .ok Elem.ints.size w := fun w => by kernel_rfl
theorem rlook_any (w : World) {q : Nat} {v : Value} {S : SS} (h : RS w q v S) (hm : ManyB S) :
    Calls Try.prog 29 #[.pointer (some ⟨q, 0, none⟩)] w fun e w' => e = .returned (.tuple #[.int .i64 (topI S.L), .int .u64 (S.t : Int)]) ∧ RS w' q v ⟨S.L, S.B, S.t, S.n + 1⟩ ∧ QW q w w' := by
  have c0 := h.c0; have c1 := h.c1; have c2 := h.c2
  have f2 := h.frozen 2
  obtain ⟨a, c, rfl, h1, h2⟩ := h.vec.slice'
  rw [toI_len] at h1
  rw [show (toI S.L).length = S.L.length from toI_len _] at h c0 ⊢
  have H := Lib.hid (h.ask ((S.n : Int) + 1) (S.n + 1) (by omega))
  have K := Lib.hid h.vec
  have U := Lib.hid ((Upd.refl (fun k => k = q) w).setCell (p := ⟨q, 2, none⟩) (.inl rfl) (.int .i64 ((S.n : Int) + 1)))
  obtain ⟨n, hn⟩ : ∃ z, S.n = z := ⟨_, rfl⟩
  obtain ⟨t, ht⟩ : ∃ z, S.t = z := ⟨_, rfl⟩
  obtain ⟨l, hl⟩ : ∃ z, S.L.length = z := ⟨_, rfl⟩
  have hnb : n ≤ 999999999 := by rw [← hn]; exact hm
  rw [hn] at c2 U
  rw [hn, ht, hl] at H
  rw [ht] at c1 ⊢
  rw [hl] at c0 h1 K ⊢
  rw [hn]
  cases hL : S.L with
  | nil =>
    have hl0 : l = 0 := by rw [← hl, hL]; rfl
    subst hl0
    rw [hL] at H
    clear h hm hn ht hl hL
    go_enter Try.func29, Try.ntmps29
    go_wp2
    go_quiet (fail)
    go_wp2
    go_ret2
    exact ⟨rfl, H.out.grew (below_drewN (Below.refl _ _) nq), U.out.trans ((updFalse_of (below_drewN (Below.refl _ _) nq)).mono fun _ h => h.elim)⟩
  | cons x T =>
    obtain ⟨b3, off3, y, ea, hy, _, d0⟩ := Vec.at13 K.out.seq (t := 0) (by rw [toI_len, hL]; exact Nat.succ_pos _)
    subst ea
    have hyx : y = (x : Int) := by rw [hL] at hy; unfold toI at hy; simp at hy; exact hy.symm
    subst hyx
    have hne : b3 ≠ q := K.out.seq |> fun _ => h.ne b3 rfl
    have d0' : (w.setCell ⟨q, 2, none⟩ (.int .i64 ((n : Int) + 1))).cell? ⟨b3, off3, none⟩ = some (.int .i64 (x : Int)) := by
      obtain ⟨b4, off4, y4, e4, hy4, _, d4⟩ := Vec.at13 (keep_q h 2 (.int .i64 ((n : Int) + 1))).seq (t := 0) (by rw [toI_len, hL]; exact Nat.succ_pos _)
      injection e4 with e4; injection e4 with e5 e6; subst e5 e6
      rw [hy] at hy4; injection hy4 with hy4
      rw [← hy4] at d4; simpa using d4
    have hl0 : 0 < l := by rw [← hl, hL]; exact Nat.succ_pos _
    have tl : ((l : Int) == 0) = false := by rw [beq_eq_false_iff_ne]; omega
    have tl' : (l == 0) = false := by rw [beq_eq_false_iff_ne]; omega
    have q1 : (0 : Int) < (l : Int) := by omega
    rw [hL] at H
    show Calls _ _ _ _ fun e w' => e = .returned (.tuple #[.int .i64 (x : Int), .int .u64 (t : Int)]) ∧ _
    clear h hm hn ht hl hL hy K d0
    go_enter Try.func29, Try.ntmps29
    go_wp2
    go_quiet (fail)
    go_wp2
    go_ret2
    exact ⟨rfl, H.out.grew (below_drewN (Below.refl _ _) nq), U.out.trans ((updFalse_of (below_drewN (Below.refl _ _) nq)).mono fun _ h => h.elim)⟩
def HasR (l : List Int) (x : Int) (w : World) (i : Value) (wr : World) : Prop := IdxR l x w i wr
theorem rhas_any (w : World) {q : Nat} {v : Value} {S : SS} (h : RS w q v S) (p : Nat) :
    Calls Try.prog 37 #[.pointer (some ⟨q, 0, none⟩), .int .i64 (p : Int)] w fun e w' => e = .returned (.bool (decide (p ∈ S.L))) ∧ w' = w := by
  have c0 := h.c0
  obtain ⟨a, c, rfl, h1, h2⟩ := h.vec.slice'
  rw [toI_len] at h1
  rw [show (toI S.L).length = S.L.length from toI_len _] at h c0
  have K := Lib.hid h.vec.seq
  obtain ⟨n, hn⟩ : ∃ z, S.L.length = z := ⟨_, rfl⟩
  rw [hn] at c0 h1 K
  have HN := Lib.hid (show (toI S.L).length = n by rw [toI_len]; exact hn)
  obtain ⟨y, hy⟩ : ∃ y, decide (p ∈ S.L) = y := ⟨_, rfl⟩
  have HY := Lib.hid hy
  rw [hy]
  have I0 := Lib.hid (show IdxR (toI S.L) (p : Int) w (.int .i64 0) w from ⟨0, Nat.zero_le _, rfl, by simp, rfl⟩)
  clear h hn hy
  go_enter Try.func37, Try.ntmps37
  go_wp2
  go_loopw [12] (fun i wr => IdxR (toI S.L) (p : Int) w i wr) (fun i _ => n - (intOf i).toNat)
  case atStart => exact I0.out
  case round =>
    clear I0
    obtain ⟨t, ht, rfl, hno, rfl⟩ := hrel
    rw [HN.out] at ht
    have NO := Lib.hid hno
    by_cases htn : t < n
    · obtain ⟨b3, off3, z, ea, hz, hzm, d0⟩ := Vec.at13 K.out (t := t) (by rw [HN.out]; exact htn)
      subst ea
      have HZ := Lib.hid hz; have HM := Lib.hid hzm
      have t2 : decide ((t : Int) < (n : Int)) = true := decide_eq_true (by omega)
      have t2' : decide (t < n) = true := decide_eq_true htn
      have q3 : (0 : Int) ≤ (t : Int) := by omega
      have q4 : (t : Int) < (n : Int) := by omega
      clear hno hz hzm
      by_cases hxy : (p : Int) = z
      · subst hxy
        have t3 : ((p : Int) == p) = true := by simp
        have e1 : y = true := by rw [← HY.out]; exact decide_eq_true (mem_toI.1 HM.out)
        subst e1
        go_wp2
        go_ret
        exact ⟨rfl, rfl⟩
      · have t3 : ((z : Int) == (p : Int)) = false := by rw [beq_eq_false_iff_ne]; exact fun e => hxy e.symm
        have HXY := Lib.hid hxy
        clear hxy
        go_wp2
        go_roundw
        case rel => exact ⟨t + 1, by rw [HN.out]; omega, by go_num, take_next13 NO.out HZ.out HXY.out, rfl⟩
        case measure => simp [intOf]; omega
    · obtain rfl : t = n := by omega
      have t2 : decide ((t : Int) < (t : Int)) = false := decide_eq_false (by omega)
      clear hno
      have e1 : y = false := by
        rw [← HY.out]
        exact decide_eq_false fun hm => NO.out (p : Int) (by rw [← HN.out, List.take_length]; exact mem_toI.2 hm) rfl
      subst e1
      go_wp2
      go_ret
      exact ⟨rfl, rfl⟩
end Go.Proofs.Ytgaecgijmnkdgaa
