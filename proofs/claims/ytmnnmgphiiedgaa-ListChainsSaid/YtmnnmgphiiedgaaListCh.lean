/- Lists (layer 7): the landed Chain, right, last: contracts. -/
import Derived.Test.YtmnnmgphiiedgaaListIt
import Derived.Test.YtmnnmgphiiedgaaRefL2
import Derived.Test.YtmnnmgphiiedgaaVecIn
namespace Go.Proofs.Ytmnnmgphiiedgaa
open Go.RowKit Go.Shelf ListMath
set_option linter.unusedVariables false
attribute [local go_sem] Oper.semAt_some

theorem box3 (w : World) (c0 c1 c2 : Array Value) (t0 t1 t2 : TypeId) : ∃ W, ((w.alloc (.cells c0 t0)).alloc (.cells c1 t1)).alloc (.cells c2 t2) = W ∧ Blk W w.heap.size t0 c0 ∧ Blk W (w.heap.size + 1) t1 c1 ∧ Blk W (w.heap.size + 1 + 1) t2 c2 ∧ W.heap.size = w.heap.size + 1 + 1 + 1 ∧ Below w.heap.size w W := by
  refine ⟨_, rfl, ((Blk.new w _ _).alloc _).alloc _, ?_, ?_, by simp, (((Below.refl _ w).alloc (Nat.le_refl _) _).alloc (by simp) _).alloc (by simp; omega) _⟩
  · have := (Blk.new (w.alloc (.cells c0 t0)) t1 c1).alloc (.cells c2 t2)
    rwa [World.size_alloc] at this
  · have := Blk.new ((w.alloc (.cells c0 t0)).alloc (.cells c1 t1)) t2 c2
    rwa [World.size_alloc, World.size_alloc] at this
/-- What was handed on, as pairs. -/
def prs (pre : List Lnk) : List (Nat × Nat) := pre.map (·.1)
theorem prs_snoc (pre : List Lnk) (x : Lnk) : prs (pre ++ [x]) = prs pre ++ [x.1] := by unfold prs; rw [List.map_append]; rfl
theorem chain_come {L : List Nat} {m : Int} {h : Nat} {xs : List Lnk} (e : AllCome L (mostF L m) h xs) : chainN L h m = if endF h (prs xs) = 0 then some ((prs xs).map (·.1)) else none := by
  have := rowF_walk L (mostF L m) h
  rw [← e] at this
  exact this
def u64C (x : Nat) : Array Value := #[.int .u64 (x : Int)]
def ChIs (w : World) (h : Nat) (pre : List Lnk) (W : World) : Prop :=
  (Blk W w.heap.size 33 (lsC 0 0) ∧ Blk W (w.heap.size + 1) 33 (lsC h (pre.length : Int)) ∧ Blk W (w.heap.size + 1 + 1) 28 (u64C (endF h (prs pre)))) ∧ Below w.heap.size w W
theorem chIs_own {w : World} {B : Nat} (hB : w.heap.size ≤ B) (h : Nat) : OwnFrom B (ChIs w h) :=
  OwnFrom.and (Own.from (own_and (blk_own _ _ _) (own_and (blk_own _ _ _) (blk_own _ _ _))) _) (ownFrom_below (Nat.le_refl _) hB)

set_option maxRecDepth 100000 in
set_option maxHeartbeats 2000000 in
theorem chain_in (p g : Nat) (L : List Nat) (h : Nat) (m : Int) (w : World) (hm : IsMem w p g L) (hh : h ≤ 18446744073709551615) (hm1 : -9223372036854775808 ≤ m) (hm2 : m ≤ 9223372036854775807) :
    CallsIn Fence.wide 5 Try.prog 22 #[.pointer (some ⟨p, 0, none⟩), .int .u64 (h : Int), .int .i64 m] w fun e w' => e = .returned (.tuple #[.agg (if (chainN L h m).isSome then lsC h (((chainN L h m).getD []).length : Int) else lsC 0 0), .int .i64 (if (chainN L h m).isSome then 0 else 3)]) ∧ Below w.heap.size w w' := by
  have hp := hm.head.lt
  have hg := hm.row.lt
  have HM := Lib.hid hm; clear hm
  obtain ⟨V, hV⟩ : ∃ V, Value.tuple #[.agg (if (chainN L h m).isSome then lsC h (((chainN L h m).getD []).length : Int) else lsC 0 0), .int .i64 (if (chainN L h m).isSome then 0 else 3)] = V := ⟨_, rfl⟩
  rw [hV]
  have HV := Lib.hid hV
  clear hV
  refine callsIn_of_wp_marks Try.func22 rfl trivial ?_ rfl
  simp only [Try.ntmps22, List.size_toArray, List.length_cons, List.length_nil, Nat.reduceAdd, Nat.reduceSub, Array.replicate_succ, Array.replicate_zero, List.push_toArray, List.append_toArray, List.nil_append, List.cons_append]
  refine wpIn_wide.2 ?_
  go_wp2_with fail
  obtain ⟨W0, hW0, b6, b8, b9, s0, u0⟩ := box3 w #[.int .u64 0, .int .i64 0] #[.int .u64 (h : Int), .int .i64 0] #[.int .u64 (h : Int)] 33 33 28
  rw [hW0]
  have I0 : ChIs w h [] W0 := ⟨⟨b6, b8, b9⟩, u0⟩
  have M0 := Lib.hid (HM.out.upd (updFalse_of u0) id id)
  clear b6 b8 b9 u0 hW0
  have II := Lib.hid I0; have S0 := Lib.hid s0
  clear I0 s0
  refine (callsIn_wide.1 (blocks_in 5 _ _ _ _)).mono ?_
  rintro e w' ⟨rfl, hw'⟩
  obtain ⟨W1, hW1, b10, b11, b12, s1, u1⟩ := box3 W0 #[.pointer (some ⟨p, 0, none⟩)] #[.int .u64 (h : Int)] #[.int .i64 m] 24 28 3
  rw [hW1] at hw'
  subst W1
  have c1 := b10.cell 0; have c2 := b11.cell 0; have c3 := b12.cell 0
  have M1 := M0.out.upd (updFalse_of u1) id id
  have I1 : ChIs w h [] w' := by
    obtain ⟨⟨h1, h2, h3⟩, h4⟩ := II.out
    exact ⟨⟨h1.grew u1, h2.grew u1, h3.grew u1⟩, below_then h4 h4.size u1⟩
  have II := Lib.hid I1; have MM := Lib.hid M1; have S1 := Lib.hid s1; have C1 := Lib.hid c1; have C2 := Lib.hid c2; have C3 := Lib.hid c3
  clear I1 M1 s1 c1 c2 c3 b10 b11 b12 u1 M0
  go_wp2_with fail
  refine wpIn_wide (n := 5).1 ?_
  have hsw : w'.heap.size = w.heap.size + 6 := by rw [S1.out, S0.out]
  refine wpIn_rangeFunc_ownF rfl (by decide) (gf := 43) (lb := #[.pointer (some ⟨W0.heap.size + 1, 0, none⟩), .pointer (some ⟨W0.heap.size + 1 + 1, 0, none⟩), .pointer (some ⟨W0.heap.size, 0, none⟩)]) rfl trivial (enters_of Try.func43 (by kernel_rfl) rfl)
    (blocks_stops _ (by decide) (W0.heap.size + 1) (W0.heap.size + 1 + 1) W0.heap.size p g L h hh m hm1 hm2 w' C2.out C3.out C1.out MM.out) keeps_t (keeps_b (fun k hk => by have := S0.out; rcases hk with rfl | rfl | rfl <;> omega)) (Below.refl _ _) (fun _ => rfl)
    (ChIs w h) (fun _ _ _ => False) (chIs_own (by omega) h) (fun _ _ _ _ _ hs _ _ => hs) II.out
    (fun x => { tmps := #[.pointer (some ⟨p, 0, none⟩), .int .u64 (h : Int), .int .i64 m, undef, undef, undef, .pointer (some ⟨w.heap.size, 0, none⟩), .int .i64 0, .pointer (some ⟨w.heap.size + 1, 0, none⟩), .pointer (some ⟨w.heap.size + 1 + 1, 0, none⟩), undef, .int .u64 (x.1.2 : Int), .pointer (some ⟨p, 0, none⟩), .bool false, undef, .int .u64 (h : Int), .agg #[.int .u64 (h : Int), .int .i64 0], .int .u64 (h : Int), .pointer (some ⟨p, 0, none⟩), .int .u64 (h : Int), .int .i64 m,
      .func (.func 43) #[] #[.pointer (some ⟨W0.heap.size + 1, 0, none⟩), .pointer (some ⟨W0.heap.size + 1 + 1, 0, none⟩), .pointer (some ⟨W0.heap.size, 0, none⟩)], .int .u64 (x.1.1 : Int), .int .u64 (x.1.2 : Int), undef, undef, undef, undef, undef, undef, undef, undef, undef], defers := [] }) ?assign ?body ?done ?stop
  case assign =>
    intro l x W K hK
    gi_wp2
    exact hK
  case body =>
    rintro l pre x W ⟨⟨h6, h8, h9⟩, hB⟩ hlen
    have d0 : W.cell? ⟨w.heap.size + 1, 1, none⟩ = some (.int .i64 (pre.length : Int)) := h8.cell 1
    have f0 := h8.frozen 1
    have d1 : W.cell? ⟨w.heap.size + 1 + 1, 0, none⟩ = some (.int .u64 ((endF h (prs pre) : Nat) : Int)) := h9.cell 0
    have f1 := h9.frozen 0
    have hsn := prs_snoc pre x
    have hl1 : (pre ++ [x]).length = pre.length + 1 := by simp
    obtain ⟨E, hE⟩ : ∃ E, endF h (prs pre) = E := ⟨_, rfl⟩
    rw [hE] at d1
    obtain ⟨⟨xa, xk⟩, hxx⟩ := x
    have hxa : xa ≤ 1048576 := hxx.1
    have hxk : xk ≤ 18446744073709551615 := hxx.2
    obtain ⟨c, hc⟩ : ∃ c, pre.length = c := ⟨_, rfl⟩
    rw [hc] at d0 hlen
    have HB := Lib.hid hB; have H6 := Lib.hid h6; have H8 := Lib.hid h8; have H9 := Lib.hid h9; have HE := Lib.hid hE; have HS := Lib.hid hsn; have HL := Lib.hid hl1; have HC := Lib.hid hc
    clear hB h6 h8 h9 hE hsn hl1 hc
    gi_wp2
    have n1 : ¬ K3 p g W0.heap.size (w.heap.size + 1) := by have := S0.out; rintro (h | h | h) <;> omega
    have n2 : ¬ K3 p g W0.heap.size (w.heap.size + 1 + 1) := by have := S0.out; rintro (h | h | h) <;> omega
    refine ⟨(KeepsOthers.setCell _ _ _).trans (KeepsOthers.setCell _ _ _), ((Keeps.refl _ _).setCell n1 _).setCell n2 _, ⟨?_, ?_, ?_⟩, ?_⟩
    · exact (H6.out.far (by simp only; omega) _).far (by simp only; omega) _
    · have h8 := (H8.out.put 1 (.int .i64 ((c : Int) + 1))).far (p := ⟨w.heap.size + 1 + 1, 0, none⟩) (by simp only; omega) (.int .u64 (xk : Int))
      rw [HL.out, HC.out]
      exact h8
    · have h9 := (H9.out.far (p := ⟨w.heap.size + 1, 1, none⟩) (by simp only; omega) (.int .i64 ((c : Int) + 1))).put 0 (.int .u64 (xk : Int))
      rw [HS.out, endF_snoc]
      exact h9
    · exact (HB.out.setCell (p := ⟨w.heap.size + 1, 1, none⟩) (by simp only; omega) _).setCell (p := ⟨w.heap.size + 1 + 1, 0, none⟩) (by simp only; omega) _
  case done =>
    rintro D xs W hD hS ⟨⟨h6, h8, h9⟩, hB⟩ hK
    have hcome := chain_come hS
    have d1 : W.cell? ⟨w.heap.size + 1 + 1, 0, none⟩ = some (.int .u64 ((endF h (prs xs) : Nat) : Int)) := h9.cell 0
    have e0 : W.cell? ⟨w.heap.size + 1, 0, none⟩ = some (.int .u64 (h : Int)) := h8.cell 0
    have e1 : W.cell? ⟨w.heap.size + 1, 1, none⟩ = some (.int .i64 (xs.length : Int)) := h8.cell 1
    have k0 : W.cell? ⟨w.heap.size, 0, none⟩ = some (.int .u64 0) := h6.cell 0
    have k1 : W.cell? ⟨w.heap.size, 1, none⟩ = some (.int .i64 0) := h6.cell 1
    have f0 := h6.frozen 0
    have f1 := h6.frozen 1
    have hlen : (prs xs).length = xs.length := by simp [prs]
    obtain ⟨E, hE⟩ : ∃ E, endF h (prs xs) = E := ⟨_, rfl⟩
    obtain ⟨c, hc⟩ : ∃ c, xs.length = c := ⟨_, rfl⟩
    obtain ⟨R, hR⟩ : ∃ R, chainN L h m = R := ⟨_, rfl⟩
    rw [hE] at d1 hcome
    rw [hc] at e1 hlen
    rw [hR] at hcome
    have HR := Lib.hid hR
    have HB := Lib.hid hB; have H6 := Lib.hid h6; have KK := Lib.hid hK; have HLEN := Lib.hid hlen
    have HD := Lib.hid (show w.heap.size + 1 + 1 + 1 < D by omega)
    clear h8 h9 hE hc hR hS hB h6 hK hD hlen
    by_cases hE0 : E = 0
    · subst hE0
      rw [if_pos rfl] at hcome
      have t1 : (((0 : Nat) : Int) != 0) = false := by decide
      have HCM := Lib.hid hcome
      clear hcome
      go_wp2
      have hK' := ((KeepsOthers.setCell W ⟨w.heap.size, 0, none⟩ (.int .u64 (h : Int))).trans (KeepsOthers.setCell _ ⟨w.heap.size, 1, none⟩ (.int .i64 (c : Int)))).same D _ KK.out rfl
      have hb6 := ((H6.out.put 0 (.int .u64 (h : Int))).put 1 (.int .i64 (c : Int))).putObj (.deferred none) hK' rfl
      have q0 := hb6.cell 0
      have q1 := hb6.cell 1
      have hsz := HD.out
      refine ⟨by simp, .inl ⟨_, _, rfl, run_takeDeferred hK', ?_⟩⟩
      refine ⟨.tuple #[.agg #[.int .u64 (h : Int), .int .i64 (c : Int)], .int .i64 0], by simp [results, Try.f22, go_sem, lsC] at q0 q1 ⊢; simp [q0, q1], ?_, ?_⟩
      · rw [← HV.out, HR.out, HCM.out]
        simp [lsC, HLEN.out]
      · exact ((HB.out.setCell (p := ⟨w.heap.size, 0, none⟩) (Nat.le_refl _) _).setCell (p := ⟨w.heap.size, 1, none⟩) (Nat.le_refl _) _).trans (belowK_b (w := w) (Nat.le_refl _) _ D _ _ (by omega) hK' rfl rfl)
    · rw [if_neg hE0] at hcome
      have t1 : ((E : Int) != 0) = true := by rw [bne_iff_ne]; omega
      have HCM := Lib.hid hcome
      clear hcome hE0
      go_wp2
      have hK' := ((KeepsOthers.setCell W ⟨w.heap.size, 0, none⟩ (.int .u64 0)).trans (KeepsOthers.setCell _ ⟨w.heap.size, 1, none⟩ (.int .i64 0))).same D _ KK.out rfl
      have hb6 := ((H6.out.put 0 (.int .u64 0)).put 1 (.int .i64 0)).putObj (.deferred none) hK' rfl
      have q0 := hb6.cell 0
      have q1 := hb6.cell 1
      have hsz := HD.out
      refine ⟨by simp, .inl ⟨_, _, rfl, run_takeDeferred hK', ?_⟩⟩
      refine ⟨.tuple #[.agg #[.int .u64 0, .int .i64 0], .int .i64 3], by simp [results, Try.f22, go_sem, lsC] at q0 q1 ⊢; simp [q0, q1], ?_, ?_⟩
      · rw [← HV.out, HR.out, HCM.out]
        simp [lsC]
      · exact ((HB.out.setCell (p := ⟨w.heap.size, 0, none⟩) (Nat.le_refl _) _).setCell (p := ⟨w.heap.size, 1, none⟩) (Nat.le_refl _) _).trans (belowK_b (w := w) (Nat.le_refl _) _ D _ _ (by omega) hK' rfl rfl)
  case stop =>
    rintro D c pre W _ _ h _
    exact h.elim
end Go.Proofs.Ytmnnmgphiiedgaa
