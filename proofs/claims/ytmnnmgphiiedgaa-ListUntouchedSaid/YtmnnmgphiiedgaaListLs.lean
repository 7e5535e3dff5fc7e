/- Lists (layer 7): the landed last: its contract. -/
import Derived.Test.YtmnnmgphiiedgaaListCh
namespace Go.Proofs.Ytmnnmgphiiedgaa
open Go.RowKit Go.Shelf ListMath
set_option linter.unusedVariables false
attribute [local go_sem] Oper.semAt_some

/-- The iterator's three boxes, made behind w. -/
structure Boxes (w : World) (p h : Nat) (m : Int) (w' : World) : Prop where
  b0 : Blk w' w.heap.size 24 #[.pointer (some ⟨p, 0, none⟩)]
  b1 : Blk w' (w.heap.size + 1) 28 #[.int .u64 (h : Int)]
  b2 : Blk w' (w.heap.size + 1 + 1) 3 #[.int .i64 m]
  size : w'.heap.size = w.heap.size + 1 + 1 + 1
  below : Below w.heap.size w w'
theorem blocks_drew (p h : Nat) (m : Int) (w : World) : Calls Try.prog 33 #[.pointer (some ⟨p, 0, none⟩), .int .u64 (h : Int), .int .i64 m] w.drew fun e w' => e = .returned (.func (.func 43) #[] #[.pointer (some ⟨w.heap.size + 1, 0, none⟩), .pointer (some ⟨w.heap.size + 1 + 1, 0, none⟩), .pointer (some ⟨w.heap.size, 0, none⟩)]) ∧ Boxes w p h m w' := by
  refine (callsIn_wide.1 (blocks_in 5 _ _ _ _)).mono ?_
  rintro e w' ⟨rfl, hw'⟩
  obtain ⟨W1, hW1, b10, b11, b12, s1, u1⟩ := box3 w.drew #[.pointer (some ⟨p, 0, none⟩)] #[.int .u64 (h : Int)] #[.int .i64 m] 24 28 3
  rw [hW1] at hw'
  subst W1
  exact ⟨rfl, b10, b11, b12, s1, (Below.refl _ w).drew.trans u1⟩
/-- The last block's address that was handed on. -/
def lastP (l : List (Nat × Nat)) : Nat := lastD (l.map (·.1))
theorem lastP_snoc (l : List (Nat × Nat)) (x : Nat × Nat) : lastP (l ++ [x]) = x.1 := by unfold lastP lastD; simp
def LsIs (w : World) (pre : List Lnk) (W : World) : Prop := Blk W w.heap.size 28 (u64C (lastP (prs pre))) ∧ Below w.heap.size w W
theorem lsIs_own {w : World} {B : Nat} (hB : w.heap.size ≤ B) : OwnFrom B (LsIs w) := OwnFrom.and (Own.from (blk_own _ _ _) _) (ownFrom_below (Nat.le_refl _) hB)

set_option maxRecDepth 100000 in
set_option maxHeartbeats 2000000 in
theorem last_in (p g lp o : Nat) (L : List Nat) (h : Nat) (m : Int) (w : World) (hm : IsMem w p g L) (hl : LCell w lp o h m) (hh : h ≤ 18446744073709551615) (hm1 : -9223372036854775808 ≤ m) (hm2 : m ≤ 9223372036854775807) :
    CallsIn Fence.wide 5 Try.prog 34 #[.pointer (some ⟨lp, o, none⟩), .pointer (some ⟨p, 0, none⟩)] w fun e w' => e = .returned (.int .u64 ((lastP (walkF L (mostF L m) h) : Nat) : Int)) ∧ Below w.heap.size w w' := by
  have hp := hm.head.lt
  have hg := hm.row.lt
  have hlt := hl.lt
  have l0 : w.cell? ⟨lp, o, none⟩ = some (.int .u64 (h : Int)) := hl.c0
  have l1 : w.cell? ⟨lp, o + 1, none⟩ = some (.int .i64 m) := hl.c1
  have HM := Lib.hid hm; clear hm hl
  refine callsIn_of_wp_marks Try.func34 rfl trivial ?_ rfl
  simp only [Try.ntmps34, List.size_toArray, List.length_cons, List.length_nil, Nat.reduceAdd, Nat.reduceSub, Array.replicate_succ, Array.replicate_zero, List.push_toArray, List.append_toArray, List.nil_append, List.cons_append]
  refine wpIn_wide.2 ?_
  go_wp2_with fail
  have b5 := Blk.new w 28 #[.int .u64 0]
  have u0 := (Below.refl w.heap.size w).alloc (Nat.le_refl _) (.cells #[.int .u64 0] 28)
  obtain ⟨W0, hW0⟩ : ∃ W, w.alloc (.cells #[.int .u64 0] 28) = W := ⟨_, rfl⟩
  have s0 : W0.heap.size = w.heap.size + 1 := by rw [← hW0]; simp
  rw [hW0] at b5 u0 ⊢
  have c0 : W0.cell? ⟨lp, o, none⟩ = some (.int .u64 (h : Int)) := (u0.cell (p := ⟨lp, o, none⟩) hlt).trans l0
  have c1 : W0.cell? ⟨lp, o + 1, none⟩ = some (.int .i64 m) := (u0.cell (p := ⟨lp, o + 1, none⟩) hlt).trans l1
  have I0 : LsIs w [] W0 := ⟨b5, u0⟩
  have M0 := Lib.hid (HM.out.upd (updFalse_of u0) id id)
  have II := Lib.hid I0; have S0 := Lib.hid s0
  clear hW0 b5 u0 I0 s0 l0 l1 hlt
  go_region_held3 (fun w' => w'.cell? ⟨lp, o, none⟩ = some (.int .u64 (h : Int)) ∧ w'.cell? ⟨lp, o + 1, none⟩ = some (.int .i64 m)) (first | go_keep | exact ⟨c0, c1⟩)
    (first
      | (go_at_call 33; with_reducible refine (blocks_drew _ _ _ _).mono ?_; rintro e w' ⟨rfl, hbx⟩; have BX := Lib.hid hbx; have c0 : w'.cell? ⟨lp, o, none⟩ = some (.int .u64 (h : Int)) := (hbx.below.cell (p := ⟨lp, o, none⟩) (World.block_lt_of_cell? W0 _ c0)).trans c0; have c1 : w'.cell? ⟨lp, o + 1, none⟩ = some (.int .i64 m) := (hbx.below.cell (p := ⟨lp, o + 1, none⟩) (World.block_lt_of_cell? W0 _ c1)).trans c1; clear hbx))
  have MM := M0.out.upd (updFalse_of BX.out.below) id id
  have I1 : LsIs w [] w' := ⟨II.out.1.grew BX.out.below, below_then II.out.2 II.out.2.size BX.out.below⟩
  have hsw : w'.heap.size = w.heap.size + 4 := by rw [BX.out.size, S0.out]
  have MH := Lib.hid MM; have I1H := Lib.hid I1
  clear MM I1 II M0 c0 c1
  go_wp2_with fail
  refine wpIn_wide (n := 5).1 ?_
  refine wpIn_rangeFunc_ownF rfl (by decide) (gf := 43) (lb := #[.pointer (some ⟨W0.heap.size + 1, 0, none⟩), .pointer (some ⟨W0.heap.size + 1 + 1, 0, none⟩), .pointer (some ⟨W0.heap.size, 0, none⟩)]) rfl trivial (enters_of Try.func43 (by kernel_rfl) rfl)
    (blocks_stops _ (by decide) (W0.heap.size + 1) (W0.heap.size + 1 + 1) W0.heap.size p g L h hh m hm1 hm2 w' (BX.out.b1.cell 0) (BX.out.b2.cell 0) (BX.out.b0.cell 0) MH.out) keeps_t (keeps_b (fun k hk => by have := S0.out; rcases hk with rfl | rfl | rfl <;> omega)) (Below.refl _ _) (fun _ => rfl)
    (LsIs w) (fun _ _ _ => False) (lsIs_own (by omega)) (fun _ _ _ _ _ hs _ _ => hs) I1H.out
    (fun x => { tmps := #[.pointer (some ⟨lp, o, none⟩), .pointer (some ⟨p, 0, none⟩), undef, undef, .int .u64 0, .pointer (some ⟨w.heap.size, 0, none⟩), .int .u64 (x.1.1 : Int), .pointer (some ⟨p, 0, none⟩), .pointer (some ⟨lp, o, none⟩), .pointer (some ⟨lp, o, none⟩), .pointer (some ⟨lp, o, none⟩), .int .u64 (h : Int), .pointer (some ⟨lp, o, none⟩), .pointer (some ⟨lp, o, none⟩), .pointer (some ⟨lp, o + 1, none⟩), .int .i64 m,
      .func (.func 43) #[] #[.pointer (some ⟨W0.heap.size + 1, 0, none⟩), .pointer (some ⟨W0.heap.size + 1 + 1, 0, none⟩), .pointer (some ⟨W0.heap.size, 0, none⟩)], .int .u64 (x.1.1 : Int), .int .u64 (x.1.2 : Int), undef, undef], defers := [] }) ?assign ?body ?done ?stop
  case assign =>
    intro l x W K hK
    gi_wp2
    exact hK
  case body =>
    rintro l pre x W ⟨h5, hB⟩ hlen
    have d1 : W.cell? ⟨w.heap.size, 0, none⟩ = some (.int .u64 ((lastP (prs pre) : Nat) : Int)) := h5.cell 0
    have f1 := h5.frozen 0
    obtain ⟨E, hE⟩ : ∃ E, lastP (prs pre) = E := ⟨_, rfl⟩
    rw [hE] at d1
    have hsn := prs_snoc pre x
    have HB := Lib.hid hB; have H5 := Lib.hid h5; have HS := Lib.hid hsn
    clear hB h5 hsn hE hlen
    gi_wp2
    have n1 : ¬ K3 p g W0.heap.size w.heap.size := by have := S0.out; rintro (h | h | h) <;> omega
    refine ⟨KeepsOthers.setCell _ _ _, (Keeps.refl _ _).setCell n1 _, ?_, HB.out.setCell (p := ⟨w.heap.size, 0, none⟩) (Nat.le_refl _) _⟩
    rw [HS.out, lastP_snoc]
    exact H5.out.put 0 (.int .u64 (x.1.1 : Int))
  case done =>
    rintro D xs W hD hS ⟨h5, hB⟩ hK
    have d1 : W.cell? ⟨w.heap.size, 0, none⟩ = some (.int .u64 ((lastP (prs xs) : Nat) : Int)) := h5.cell 0
    have hE : prs xs = walkF L (mostF L m) h := hS
    obtain ⟨R, hR⟩ : ∃ R, lastP (walkF L (mostF L m) h) = R := ⟨_, rfl⟩
    rw [hE, hR] at d1
    have HR := Lib.hid hR; have HB := Lib.hid hB; have KK := Lib.hid hK
    have HD := Lib.hid (show w.heap.size < D by omega)
    clear hR hB hK hE hS h5 hD
    go_wp2
    have hsz := HD.out
    refine ⟨by simp, .inl ⟨_, _, rfl, run_takeDeferred KK.out, ?_⟩⟩
    refine ⟨_, results_tmp rfl _ _ _, ?_, HB.out.trans (belowK_b (w := w) (Nat.le_refl _) W D _ _ (by omega) KK.out rfl rfl)⟩
    rw [HR.out]; rfl
  case stop =>
    rintro D c pre W _ _ h _
    exact h.elim
theorem last_any (p g lp o : Nat) (L : List Nat) (h : Nat) (m : Int) (w : World) (hm : IsMem w p g L) (hl : LCell w lp o h m) (hh : h ≤ 18446744073709551615) (hm1 : -9223372036854775808 ≤ m) (hm2 : m ≤ 9223372036854775807) :
    Calls Try.prog 34 #[.pointer (some ⟨lp, o, none⟩), .pointer (some ⟨p, 0, none⟩)] w fun e w' => e = .returned (.int .u64 ((lastP (walkF L (mostF L m) h) : Nat) : Int)) ∧ Below w.heap.size w w' := callsIn_wide.1 (last_in p g lp o L h m w hm hl hh hm1 hm2)
theorem chain_any (p g : Nat) (L : List Nat) (h : Nat) (m : Int) (w : World) (hm : IsMem w p g L) (hh : h ≤ 18446744073709551615) (hm1 : -9223372036854775808 ≤ m) (hm2 : m ≤ 9223372036854775807) :
    Calls Try.prog 22 #[.pointer (some ⟨p, 0, none⟩), .int .u64 (h : Int), .int .i64 m] w fun e w' => e = .returned (.tuple #[.agg (if (chainN L h m).isSome then lsC h (((chainN L h m).getD []).length : Int) else lsC 0 0), .int .i64 (if (chainN L h m).isSome then 0 else 3)]) ∧ Below w.heap.size w w' := callsIn_wide.1 (chain_in p g L h m w hm hh hm1 hm2)
end Go.Proofs.Ytmnnmgphiiedgaa
