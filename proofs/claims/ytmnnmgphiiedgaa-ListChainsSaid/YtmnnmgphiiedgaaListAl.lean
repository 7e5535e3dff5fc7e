/- Lists (layer 7): the landed All: its contract. -/
import Derived.Test.YtmnnmgphiiedgaaListRt
namespace Go.Proofs.Ytmnnmgphiiedgaa
open Go.RowKit Go.Shelf ListMath
set_option linter.unusedVariables false
attribute [local go_sem] Oper.semAt_some

def adr (pre : List Lnk) : List Nat := (prs pre).map (·.1)
theorem adr_snoc (pre : List Lnk) (x : Lnk) : adr (pre ++ [x]) = adr pre ++ [x.1.1] := by unfold adr; rw [prs_snoc, List.map_append]; rfl
theorem adr_len (pre : List Lnk) : (adr pre).length = pre.length := by simp [adr, prs]
def AlIs (w : World) (b6 nb : Nat) (pre : List Lnk) (W : World) : Prop :=
  (∃ v : Value, Blk W b6 37 #[v] ∧ Vec Elem.u64s W v (adr pre) ∧ ((∀ k, In v k → nb ≤ k) ∧ (adr pre = [] → ∀ k, ¬ In v k)) ∧ nb ≤ W.heap.size) ∧ Below w.heap.size w W
theorem alIs_own {w : World} {B : Nat} (hB : w.heap.size ≤ B) (b6 nb : Nat) : OwnFrom B (AlIs w b6 nb) :=
  OwnFrom.and (Own.from (own_ex fun v => own_and (blk_own _ _ _) (own_and (vec_own _ _) (own_and (pure_own (fun pre : List Lnk => (∀ k, In v k → nb ≤ k) ∧ (adr pre = [] → ∀ k, ¬ In v k))) (size_own _)))) _) (ownFrom_below (Nat.le_refl _) hB)
theorem all_some {L : List Nat} {h : Nat} {n : Int} {r : List Nat} (hn : 0 ≤ n) (e : allN ⟨L, h, n⟩ = some r) : r = (walkF L (mostF L n) h).map (·.1) := by
  have h1 := allN_row (s := ⟨L, h, n⟩) hn
  rw [e] at h1
  have h2 := rowF_walk L (mostF L n) h
  change chainN L h n = _ at h2
  simp only [] at h1
  rw [h2] at h1
  split at h1
  · rename_i r' hr'
    split at hr'
    · injection hr' with hr'
      split at h1
      · injection h1 with h1; rw [h1, hr']
      · cases h1
    · cases hr'
  · cases h1
/-- Of a list that isn't right. -/
theorem all_none (w : World) {p g lp o h : Nat} {L : List Nat} {n : Int} (hm : IsMem w p g L) (hl : LCell w lp o h n) (hh : h ≤ 18446744073709551615) (hn : 0 ≤ n ∧ n ≤ 1000000000) (hA : allN ⟨L, h, n⟩ = none) :
    Calls Try.prog 15 #[.pointer (some ⟨lp, o, none⟩), .pointer (some ⟨p, 0, none⟩)] w fun e w' => e = .returned (.tuple #[.slice none 0 0, .int .i64 3]) ∧ Below w.heap.size w w' := by
  have HR := right_any w hm hl hh hn
  rw [hA] at HR
  simp only [Option.isSome_none] at HR
  have HRR := Lib.hid HR
  clear hm hl HR hA
  go_enter Try.func15, Try.ntmps15
  go_wp2_with fail
  refine HRR.out.mono ?_
  rintro e w1 ⟨rfl, hb⟩
  have B1 := Lib.hid hb
  clear hb
  go_wp2
  go_ret2
  exact ⟨rfl, B1.out⟩

set_option maxRecDepth 100000 in
set_option maxHeartbeats 2000000 in
theorem all_in (p g lp o : Nat) (L : List Nat) (h : Nat) (m : Int) (w : World) (hm : IsMem w p g L) (hl : LCell w lp o h m) (hh : h ≤ 18446744073709551615) (hn : 0 ≤ m ∧ m ≤ 1000000000) (r : List Nat) (hA : allN ⟨L, h, m⟩ = some r) :
    CallsIn Fence.wide 5 Try.prog 15 #[.pointer (some ⟨lp, o, none⟩), .pointer (some ⟨p, 0, none⟩)] w fun e w' => ∃ a k cap, e = .returned (.tuple #[.slice a k cap, .int .i64 0]) ∧ Seq Elem.u64s w' (.slice a k cap) r ∧ k ≤ cap ∧ cap ≤ 9223372036854775807 ∧ (∀ b, In (.slice a k cap) b → w.heap.size ≤ b) ∧ Below w.heap.size w w' := by
  have hp := hm.head.lt
  have hg := hm.row.lt
  have hlt := hl.lt
  have l0 : w.cell? ⟨lp, o, none⟩ = some (.int .u64 (h : Int)) := hl.c0
  have l1 : w.cell? ⟨lp, o + 1, none⟩ = some (.int .i64 m) := hl.c1
  have HR := right_any w hm hl hh hn
  rw [hA] at HR
  simp only [Option.isSome_some] at HR
  have HRR := Lib.hid HR
  have hrw := all_some hn.1 hA
  obtain ⟨hm1, hm2⟩ := hn
  have HRW := Lib.hid hrw
  have HM := Lib.hid hm
  obtain ⟨i0, hi, hz0, hz1, hz2⟩ := info_parts infoU64
  have HI := Lib.hid (And.intro hi (And.intro hz0 (And.intro hz1 hz2)))
  clear hm hl HR hA hrw hi hz0 hz1 hz2
  refine callsIn_of_wp_marks Try.func15 rfl trivial ?_ rfl
  simp only [Try.ntmps15, List.size_toArray, List.length_cons, List.length_nil, Nat.reduceAdd, Nat.reduceSub, Array.replicate_succ, Array.replicate_zero, List.push_toArray, List.append_toArray, List.nil_append, List.cons_append]
  refine wpIn_wide.2 ?_
  go_wp2_with fail
  refine HRR.out.mono ?_
  rintro e w1 ⟨rfl, hb1⟩
  have b5 := Blk.new w1 37 #[.slice none 0 0]
  have u0 := hb1.alloc hb1.size (.cells #[.slice none 0 0] 37)
  obtain ⟨W0, hW0⟩ : ∃ W, w1.alloc (.cells #[.slice none 0 0] 37) = W := ⟨_, rfl⟩
  have s0 : W0.heap.size = w1.heap.size + 1 := by rw [← hW0]; simp
  have s1 := hb1.size
  clear hb1
  go_wp2_with fail
  rw [hW0] at b5 u0
  have c0 : W0.cell? ⟨lp, o, none⟩ = some (.int .u64 (h : Int)) := (u0.cell (p := ⟨lp, o, none⟩) hlt).trans l0
  have c1 : W0.cell? ⟨lp, o + 1, none⟩ = some (.int .i64 m) := (u0.cell (p := ⟨lp, o + 1, none⟩) hlt).trans l1
  obtain ⟨b6, hb6⟩ : ∃ b, w1.heap.size = b := ⟨_, rfl⟩
  rw [hb6] at b5 s0 s1 ⊢
  have M0 := Lib.hid (HM.out.upd (updFalse_of u0) id id)
  have S0 := Lib.hid s0; have S1 := Lib.hid s1; have B5 := Lib.hid b5; have U0 := Lib.hid u0
  clear hW0 b5 u0 s0 s1 l0 l1 hlt hb6
  go_region_held3 (fun w' => w'.cell? ⟨lp, o, none⟩ = some (.int .u64 (h : Int)) ∧ w'.cell? ⟨lp, o + 1, none⟩ = some (.int .i64 m)) (first | go_keep | exact ⟨c0, c1⟩)
    (first
      | (go_at_call 33; (with_reducible refine (blocks_drew _ _ _ _).mono ?_); rintro e w' ⟨rfl, hbx⟩; have BX := Lib.hid hbx; have c0 : w'.cell? ⟨lp, o, none⟩ = some (.int .u64 (h : Int)) := (hbx.below.cell (p := ⟨lp, o, none⟩) (World.block_lt_of_cell? W0 _ c0)).trans c0; have c1 : w'.cell? ⟨lp, o + 1, none⟩ = some (.int .i64 m) := (hbx.below.cell (p := ⟨lp, o + 1, none⟩) (World.block_lt_of_cell? W0 _ c1)).trans c1; clear hbx))
  have MH := Lib.hid (M0.out.upd (updFalse_of BX.out.below) id id)
  have hsw : w'.heap.size = b6 + 4 := by rw [BX.out.size, S0.out]
  have I1H : Hid (AlIs w b6 w'.heap.size [] w') := Lib.hid ⟨⟨.slice none 0 0, B5.out.grew BX.out.below, Vec.nil _, ⟨(fun k hk => by cases hk), (fun _ k hk => by cases hk)⟩, Nat.le_refl _⟩, below_then U0.out U0.out.size BX.out.below⟩
  have hb6 : w.heap.size ≤ b6 := S1.out
  have hs0 : W0.heap.size = b6 + 1 := S0.out
  obtain ⟨b7, hb7⟩ : ∃ b, W0.heap.size = b := ⟨_, rfl⟩
  have X1 : Hid (w'.cell? ⟨b7 + 1, 0, none⟩ = some (.int .u64 (h : Int))) := Lib.hid (by rw [← hb7]; exact BX.out.b1.cell 0)
  have X2 : Hid (w'.cell? ⟨b7 + 1 + 1, 0, none⟩ = some (.int .i64 m)) := Lib.hid (by rw [← hb7]; exact BX.out.b2.cell 0)
  have X0 : Hid (w'.cell? ⟨b7, 0, none⟩ = some (.pointer (some ⟨p, 0, none⟩))) := Lib.hid (by rw [← hb7]; exact BX.out.b0.cell 0)
  rw [hb7] at hs0 ⊢
  have HS0 := Lib.hid hs0
  clear M0 c0 c1 hb7 BX S0 S1 B5 U0 hs0
  go_wp2_with fail
  refine wpIn_wide (n := 5).1 ?_
  have hs0 := HS0.out
  refine wpIn_rangeFunc_ownF rfl (by decide) (gf := 43) (lb := #[.pointer (some ⟨b7 + 1, 0, none⟩), .pointer (some ⟨b7 + 1 + 1, 0, none⟩), .pointer (some ⟨b7, 0, none⟩)]) rfl trivial (enters_of Try.func43 (by kernel_rfl) rfl)
    (blocks_stops _ (by decide) (b7 + 1) (b7 + 1 + 1) b7 p g L h hh m (by omega) (by omega) w' X1.out X2.out X0.out MH.out) keeps_t (keeps_b (fun k hk => by rcases hk with rfl | rfl | rfl <;> omega)) (Below.refl _ _) (fun _ => rfl)
    (AlIs w b6 w'.heap.size) (fun _ _ _ => False) (alIs_own (by omega) _ _) (fun _ _ _ _ _ hs _ _ => hs) I1H.out
    (fun x => { tmps := #[.pointer (some ⟨lp, o, none⟩), .pointer (some ⟨p, 0, none⟩), undef, undef, .slice none 0 0, .int .i64 0, .pointer (some ⟨b6, 0, none⟩), .int .u64 (x.1.1 : Int), .pointer (some ⟨lp, o, none⟩), .bool false, .bool false, .pointer (some ⟨p, 0, none⟩), .bool false, .bool false, .pointer (some ⟨lp, o, none⟩), .pointer (some ⟨p, 0, none⟩), .bool true, .bool false,
      .pointer (some ⟨p, 0, none⟩), .pointer (some ⟨lp, o, none⟩), .pointer (some ⟨lp, o, none⟩), .pointer (some ⟨lp, o, none⟩), .int .u64 (h : Int), .pointer (some ⟨lp, o, none⟩), .pointer (some ⟨lp, o, none⟩), .pointer (some ⟨lp, o + 1, none⟩), .int .i64 m,
      .func (.func 43) #[] #[.pointer (some ⟨b7 + 1, 0, none⟩), .pointer (some ⟨b7 + 1 + 1, 0, none⟩), .pointer (some ⟨b7, 0, none⟩)], .int .u64 (x.1.1 : Int), .int .u64 (x.1.2 : Int), undef, undef, undef, undef, undef], defers := [] }) ?assign ?body ?done ?stop
  case assign =>
    intro l x W K hK
    clear hs0
    gi_wp2
    exact hK
  case body =>
    rintro l pre x W ⟨⟨v, h6, hv, ⟨hin, hnil⟩, hsz⟩, hB⟩ hlen
    obtain ⟨a, cap, rfl, hc1, hc2⟩ := hv.slice'
    have hal := adr_len pre
    have hsn := adr_snoc pre x
    obtain ⟨A, hA⟩ : ∃ A, adr pre = A := ⟨_, rfl⟩
    obtain ⟨k, hk⟩ : ∃ k, A.length = k := ⟨_, rfl⟩
    rw [hA, hk] at hal
    rw [hA] at hsn hv hc1 hin hnil h6
    rw [hk] at h6 hv hc1 hin hnil
    have hkb : k < 1048576 := by omega
    have h6w : b6 < w'.heap.size := by omega
    have h7w : b7 < w'.heap.size := by omega
    have hcells : ∀ b, In (.slice a k cap) b → ∃ o : Obj, (W.alloc (.cells #[.int .u64 (x.1.1 : Int)] 28)).heap[b]? = some o ∧ o.isCells = true := fun b hb =>
      (hv.alloc _).cells (fun e => hnil e b hb) hb
    have hne6 : ¬ In (.slice a k cap) b6 := fun hb => by have := hin b6 hb; omega
    have d0 : (W.alloc (.cells #[.int .u64 (x.1.1 : Int)] 28)).cell? ⟨b6, 0, none⟩ = some (.slice a k cap) := (h6.alloc _).cell 0
    have d1 : W.cell? ⟨b6, 0, none⟩ = some (.slice a k cap) := h6.cell 0
    have HB := Lib.hid hB; have H6 := Lib.hid h6; have HV := Lib.hid hv; have HS := Lib.hid hsn; have HK := Lib.hid hk; have HIN := Lib.hid hin; have HSZ := Lib.hid hsz; have HCE := Lib.hid hcells
    have hI := HI.out
    obtain ⟨hi, hz0, hz1, hz2⟩ := hI
    clear hB h6 hv hsn hA hal hk hin hnil hsz hcells hlen hs0 hsw
    gi_wp2_with (gi_at_builtin; refine wpListIn_append_vec (E := Elem.u64s) rfl (.tmp 30) (.tmp 32) 37 rfl 28 i0 (.int .u64 0) 8 Try.underlying37 hi hz0 hz1 hz2 rfl (.slice a k cap) (.slice (some ⟨W.heap.size, 0, none⟩) 1 1) A [x.1.1] rfl rfl (HV.out.alloc _) (u64_oneAt W 28 x.1.1 _ rfl) ?_ ?_ ?_; (rw [HK.out]; simp only [maxLen, List.length_cons, List.length_nil]; omega); (rw [HK.out]; simp only [List.length_cons, List.length_nil]; omega); intro v' w2 hv2 hu2 hin2; obtain ⟨a', cap', rfl, hc1', hc2'⟩ := hv2.slice'; obtain ⟨k', hk'⟩ : ∃ k', (A ++ [x.1.1]).length = k' := ⟨_, rfl⟩; rw [hk'] at hv2 hin2 hc1' ⊢; have V2 := Lib.hid hv2; have N2 := Lib.hid hin2; have U2 := Lib.hid hu2; have Q6 := Lib.hid ((H6.out.alloc (.cells #[.int .u64 (x.1.1 : Int)] 28)).upd hu2 hne6); have q0 := Q6.out.cell 0; have q1 := Q6.out.frozen 0; clear hv2 hu2 hin2 hk')
    have n1 : ¬ K3 p g b7 b6 := by have := HS0.out; rintro (h | h | h) <;> omega
    have hs2 : w'.heap.size ≤ w2.heap.size := by have h1 := HSZ.out; have h2 := U2.out.size; rw [World.size_alloc] at h2; omega
    have hin' : ∀ b, In (.slice a' k' cap') b → w'.heap.size ≤ b := fun b hb => by
      rcases N2.out b hb with h | h
      · exact HIN.out b h
      · have h1 := HSZ.out; rw [World.size_alloc] at h; omega
    have hn6 : ¬ In (.slice a' k' cap') b6 := fun hb => by have := hin' b6 hb; omega
    refine ⟨(KeepsOthers.alloc _ _).trans ((U2.out.othersOf HCE.out).trans (KeepsOthers.setCell _ _ _)), Keeps.setCell (fun b hK => ?_) n1 _, ⟨_, Q6.out.put 0 _, ?_, ⟨hin', fun e => ?_⟩, ?_⟩, ?_⟩
    · have hb : b < w'.heap.size := by have := HS0.out; rcases hK with rfl | rfl | rfl <;> omega
      have hbW : b < W.heap.size := by have := HSZ.out; omega
      exact (U2.out.block b (by rw [World.size_alloc]; omega) (fun hi => by have := HIN.out b hi; omega)).trans (Below.heap_alloc W _ b hbW)
    · rw [HS.out]
      exact V2.out.upd ((Upd.refl (fun b => b = b6) w2).setCell (.inl rfl) _) (fun b hb e => hn6 (e ▸ hb))
    · rw [HS.out] at e
      simp at e
    · rw [show (w2.setCell ⟨b6, 0, none⟩ (.slice a' k' cap')).heap.size = w2.heap.size by simp]; exact hs2
    · have hBW : Below w.heap.size w w2 := below_then (HB.out) HB.out.size ((Below.refl _ W).alloc (Nat.le_refl _) _) |>.trans (U2.out.below (fun b hb => by have := HIN.out b hb; omega) (by have := HB.out.size; rw [World.size_alloc]; omega))
      exact hBW.setCell (p := ⟨b6, 0, none⟩) hb6 _
  case done =>
    rintro D xs W hD hS ⟨⟨v, h6, hv, ⟨hin, hnil⟩, hsz⟩, hB⟩ hK
    obtain ⟨a, cap, rfl, hc1, hc2⟩ := hv.slice'
    have hE : adr xs = r := by rw [HRW.out]; unfold adr; rw [show prs xs = walkF L (mostF L m) h from hS]
    rw [hE] at h6 hv hc1 hin
    obtain ⟨k, hk⟩ : ∃ k, r.length = k := ⟨_, rfl⟩
    rw [hk] at h6 hv hc1 hin
    have d1 : W.cell? ⟨b6, 0, none⟩ = some (.slice a k cap) := h6.cell 0
    have hV2 := hv.putObj (.deferred none) hK rfl
    have HB := Lib.hid hB; have KK := Lib.hid hK; have V := Lib.hid hV2; have N := Lib.hid hin
    have HD := Lib.hid (show w.heap.size ≤ D by omega)
    clear hB hK hE hS h6 hD hv hV2 hin hnil hk hs0 hsz
    go_wp2
    have hsz := HD.out
    refine ⟨by simp, .inl ⟨_, _, rfl, run_takeDeferred KK.out, ?_⟩⟩
    refine ⟨.tuple #[.slice a k cap, .int .i64 0], by simp [results, Try.f15, go_sem], a, k, cap, rfl, V.out.seq, hc1, hc2, fun b hb => ?_, HB.out.trans (belowK_b (w := w) (Nat.le_refl _) W D _ _ (by omega) KK.out rfl rfl)⟩
    have := N.out b hb
    omega
  case stop =>
    rintro D c pre W _ _ h _
    exact h.elim
theorem all_any (w : World) {p g lp o : Nat} {s : LS} (hm : IsMem w p g s.L) (hl : LCell w lp o s.h s.n) (hh : U64B s.h) (hn : CntB s.n) :
    Calls Try.prog 15 #[.pointer (some ⟨lp, o, none⟩), .pointer (some ⟨p, 0, none⟩)] w fun e w' => ∃ a k cap, e = .returned (.tuple #[.slice a k cap, .int .i64 (if (allN s).isSome then 0 else 3)]) ∧ Seq Elem.u64s w' (.slice a k cap) ((allN s).getD []) ∧ k ≤ cap ∧ cap ≤ 9223372036854775807 ∧ (∀ b, In (.slice a k cap) b → w.heap.size ≤ b) ∧ Below w.heap.size w w' := by
  obtain ⟨L, h, n⟩ := s
  cases hA : allN ⟨L, h, n⟩ with
  | none =>
    refine (all_none w hm hl hh hn hA).mono ?_
    rintro e w' ⟨rfl, hb⟩
    exact ⟨none, 0, 0, rfl, Seq.nil _, Nat.le_refl _, by decide, (by intro b hb; cases hb), hb⟩
  | some r => exact callsIn_wide.1 (all_in p g lp o L h n w hm hl hh hn r hA)
end Go.Proofs.Ytmnnmgphiiedgaa
