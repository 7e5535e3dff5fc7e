/- The document's own queue: Remove of one. -/
import Derived.Test.YtolccandekgmoaaRefQ11b
import Derived.Deep.RegionLaw
import Derived.Deep.RegionHeld3
import Derived.BigRegion
namespace Go.Proofs.Ytolccandekgmoaa
open Go.RowKit QueueMath
set_option linter.unusedVariables false
set_option maxRecDepth 100000

/-- A call of a Go function as one step of a region that draws its order. -/
theorem step_call {P : Program} {w : World} {ops : Array Oper} {o : Oper} {a : Act} {K : Act → World → Prop} {Q : Exit → Act → World → Prop} {X : Prop} (hgd : o.guard = none) (f : FuncId) (vs : Array Value)
    (hrun : (execOp a.eval o).run P w = .ok (.enter f vs) w) {R : Ending → World → Prop} (hc : Calls P f vs w R)
    (h : ∀ e w', R e w' → ∃ v, e = .returned v ∧ K (a.put o.dst v) w') : if Region.wanted o (yielded ops a.tmps) = true then Oper.wp P o a w K Q else X := by
  have hw : Region.wanted o (yielded ops a.tmps) = true := by simp [Region.wanted, hgd]
  rw [if_pos hw]
  unfold Oper.wp
  rw [hrun, Oper.upon_enter]
  refine hc.mono fun e w' hr => ?_
  obtain ⟨v, rfl, hk⟩ := h e w' hr
  exact hk
/-- Behind both calls: the two rows are put. -/
theorem remove_end {Z : Nat → Prop} {w w6 : World} {m : Nat} {S : QR} {x : Int} {a1 a2 : Option Addr} {n1 n2 c1 c2 : Nat} (h : RQ Z w m S) (hZ : ∀ k, Z k → k < w.heap.size) (b6 : Below w.heap.size w w6)
    (V1 : Vec Elem.ints w6 (.slice a1 n1 c1) (QueueMath.out S.R x)) (V2 : Vec Elem.ints w6 (.slice a2 n2 c2) (QueueMath.out S.F x)) (N1 : ∀ k, In (.slice a1 n1 c1) k → w.heap.size ≤ k) (N2 : ∀ k, In (.slice a2 n2 c2) k → w.heap.size ≤ k) :
    RQ Z ((w6.setCell ⟨m, 0, none⟩ (.slice a1 n1 c1)).setCell ⟨m, 1, none⟩ (.slice a2 n2 c2)) m ⟨QueueMath.out S.R x, QueueMath.out S.F x⟩ ∧ Upd (fun k => k = m) w ((w6.setCell ⟨m, 0, none⟩ (.slice a1 n1 c1)).setCell ⟨m, 1, none⟩ (.slice a2 n2 c2)) := by
  obtain ⟨v1, v2, hb, h1, h2, h3, h4⟩ := h
  have u := ((Upd.refl (fun k => k = m) w6).setCell (p := ⟨m, 0, none⟩) (.inl rfl) (.slice a1 n1 c1)).setCell (p := ⟨m, 1, none⟩) (.inl rfl) (.slice a2 n2 c2)
  have k6 := (((hb.grew b6).put 0 (.slice a1 n1 c1)).put 1 (.slice a2 n2 c2))
  have hlt := hb.lt
  have hn1 : ∀ k, In (.slice a1 n1 c1) k → k ≠ m := fun k hk e => by have := N1 k hk; omega
  have hn2 : ∀ k, In (.slice a2 n2 c2) k → k ≠ m := fun k hk e => by have := N2 k hk; omega
  have W1 := V1.upd u hn1
  have W2 := V2.upd u hn2
  refine ⟨⟨.slice a1 n1 c1, .slice a2 n2 c2, by simpa using k6, W1.arr fun y hy => h1.wf y (mem_out.1 hy).1, W2.arr fun y hy => h2.wf y (mem_out.1 hy).1, fun k hk => ?_, h4⟩, ((updFalse_of b6).mono fun _ x => x.elim).trans u⟩
  rcases hk with hk | hk
  · exact ⟨fun z => by have := hZ k z; have := N1 k hk; omega, hn1 k hk, W1.lt hk⟩
  · exact ⟨fun z => by have := hZ k z; have := N2 k hk; omega, hn2 k hk, W2.lt hk⟩
set_option maxHeartbeats 4000000 in
theorem rq_remove {Z : Nat → Prop} {w : World} {m : Nat} {S : QR} (h : RQ Z w m S) (hZ : ∀ k, Z k → k < w.heap.size) {x : Int} (hx : I64 x) (hm : S.all.length ≤ 100000) :
    Calls Try.prog 13 #[.pointer (some ⟨m, 0, none⟩), .int .i64 x] w fun e w' => e = .returned (.int .i64 (removeE S [x]).2) ∧ RQ Z w' m (removeE S [x]).1 ∧ Upd (fun k => k = m) w w' := by
  obtain ⟨v1, v2, hb, h1, h2, h3, h4⟩ := id h
  obtain ⟨a1, c1, rfl, hd1, hd2⟩ := h1.out
  obtain ⟨a2, c2, rfl, hd3, hd4⟩ := h2.out
  have hl : S.all.length = S.R.length + S.F.length := List.length_append
  obtain ⟨r, hr⟩ : ∃ r, S.R.length = r := ⟨_, rfl⟩
  obtain ⟨f, hf⟩ : ∃ f, S.F.length = f := ⟨_, rfl⟩
  rw [hr] at h1 hb h3 hd1
  rw [hf] at h2 hb h3 hd3
  have d0 : w.cell? ⟨m, 0, none⟩ = some (.slice a1 r c1) := hb.cell 0
  have A1 := Lib.hid (at11_any w h1 hx)
  have H := Lib.hid h; have HB := Lib.hid hb; have V1 := Lib.hid h1; have V2 := Lib.hid h2; have HZ := Lib.hid hZ
  have BIG : Hid (S.R.length ≤ 1000000 ∧ S.F.length ≤ 1000000) := Lib.hid (by omega)
  have WO : Hid (∀ w', Below w.heap.size w w' → w'.cell? ⟨m, 0, none⟩ = some (.slice a1 r c1) ∧ w'.cell? ⟨m, 1, none⟩ = some (.slice a2 f c2) ∧ w'.frozen? ⟨m, 0, none⟩ = false ∧ w'.frozen? ⟨m, 1, none⟩ = false ∧
      Calls Try.prog 27 #[.slice a1 r c1, .int .i64 x] w' (fun e w2 => ∃ v', e = .returned v' ∧ Vec Elem.ints w2 v' (QueueMath.out S.R x) ∧ (∀ k, In v' k → w'.heap.size ≤ k) ∧ Below w'.heap.size w' w2) ∧
      Calls Try.prog 27 #[.slice a2 f c2, .int .i64 x] w' (fun e w2 => ∃ v', e = .returned v' ∧ Vec Elem.ints w2 v' (QueueMath.out S.F x) ∧ (∀ k, In v' k → w'.heap.size ≤ k) ∧ Below w'.heap.size w' w2)) :=
    Lib.hid fun w' hbw => by
      have k := HB.out.grew hbw
      exact ⟨k.cell 0, k.cell 1, k.frozen 0, k.frozen 1, without11_any w' (V1.out.grew hbw) hx BIG.out.1, without11_any w' (V2.out.grew hbw) hx BIG.out.2⟩
  by_cases hr1 : x ∈ S.R
  · rw [remove_there (mem_all.2 (.inl hr1))]
    have e1 := decide_eq_false (show ¬ x ∉ S.R from fun hh => hh hr1)
    rw [e1] at A1
    clear h hb h1 h2 h3 h4 hl hr hf hZ hr1 e1
    go_enter Try.func13, Try.ntmps13
    go_wp2_with fail
    refine A1.out.mono ?_; rintro e w1 ⟨⟨k1, rfl, -, hk1⟩, hb⟩
    have BW := Lib.hid hb
    clear hb d0
    obtain ⟨d0, d1, g0, g1, -, -⟩ := WO.out w1 BW.out
    go_wp2
    go_region_law
      (first
        | (refine step_call rfl 27 #[.slice a1 r c1, .int .i64 x] ?_ (WO.out _ ?_).2.2.2.2.1 ?_
           · go_simp
           · first | exact BW.out | exact BW.out.drew
           rintro e w5 ⟨v5, rfl, hv5, hn5, hb5⟩
           refine ⟨v5, rfl, ?_⟩
           have hs5 : w.heap.size ≤ w5.heap.size := by have h1 := BW.out.size; have h2 := hb5.size; (try simp only [World.size_drew] at *); omega
           have BX : Below w.heap.size w w5 := by first | exact below_then BW.out BW.out.size hb5 | exact below_then BW.out.drew BW.out.drew.size hb5
           have NR : Hid (∀ k, In v5 k → w.heap.size ≤ k) := Lib.hid (fun k hk => by have h1 := BW.out.size; have h2 := hn5 k hk; (try simp only [World.size_drew] at *); omega)
           try have VF := Lib.hid (VF.out.upd (updFalse_of hb5) fun _ _ => id)
           have BW := Lib.hid BX
           obtain ⟨aR, cR, rfl, -, -⟩ := hv5.slice'
           obtain ⟨nR, hnR⟩ : ∃ n, (QueueMath.out S.R x).length = n := ⟨_, rfl⟩
           rw [hnR] at hv5 NR ⊢
           have VR := Lib.hid hv5
           obtain ⟨d0, d1, g0, g1, -, -⟩ := WO.out w5 BX
           clear hv5 hn5 hb5 BX hs5 hnR)
        | (refine step_call rfl 27 #[.slice a2 f c2, .int .i64 x] ?_ (WO.out _ ?_).2.2.2.2.2 ?_
           · go_simp
           · first | exact BW.out | exact BW.out.drew
           rintro e w5 ⟨v5, rfl, hv5, hn5, hb5⟩
           refine ⟨v5, rfl, ?_⟩
           have hs5 : w.heap.size ≤ w5.heap.size := by have h1 := BW.out.size; have h2 := hb5.size; (try simp only [World.size_drew] at *); omega
           have BX : Below w.heap.size w w5 := by first | exact below_then BW.out BW.out.size hb5 | exact below_then BW.out.drew BW.out.drew.size hb5
           have NF : Hid (∀ k, In v5 k → w.heap.size ≤ k) := Lib.hid (fun k hk => by have h1 := BW.out.size; have h2 := hn5 k hk; (try simp only [World.size_drew] at *); omega)
           try have VR := Lib.hid (VR.out.upd (updFalse_of hb5) fun _ _ => id)
           have BW := Lib.hid BX
           obtain ⟨aF, cF, rfl, -, -⟩ := hv5.slice'
           obtain ⟨nF, hnF⟩ : ∃ n, (QueueMath.out S.F x).length = n := ⟨_, rfl⟩
           rw [hnF] at hv5 NF ⊢
           have VF := Lib.hid hv5
           obtain ⟨d0, d1, g0, g1, -, -⟩ := WO.out w5 BX
           clear hv5 hn5 hb5 BX hs5 hnF))
    all_goals
      go_wp2
      go_ret
      have hE := remove_end H.out HZ.out BW.out VR.out VF.out NR.out NF.out
      exact ⟨rfl, hE⟩
  · have e1 := decide_eq_true hr1
    rw [e1] at A1
    by_cases hf1 : x ∈ S.F
    · rw [remove_there (mem_all.2 (.inr hf1))]
      have e2 := Lib.hid (decide_eq_false (show ¬ x ∉ S.F from fun hh => hh hf1))
      clear h hb h1 h2 h3 h4 hl hr hf hZ hr1 hf1 e1
      go_enter Try.func13, Try.ntmps13
      go_wp2_with fail
      refine A1.out.mono ?_; rintro e w1 ⟨⟨k1, rfl, -, hk1⟩, hb⟩
      have B1 := Lib.hid hb
      clear hb d0
      obtain ⟨-, d1, -⟩ := WO.out w1 B1.out
      have A2 := at11_any w1 (V2.out.grew B1.out) hx
      rw [e2.out] at A2
      have A2 := Lib.hid A2
      go_wp2_with fail
      refine A2.out.mono ?_; rintro e w2 ⟨⟨k2, rfl, -, hk2⟩, hb⟩
      have BW := Lib.hid (below_then B1.out B1.out.size hb)
      clear hb d1
      obtain ⟨d0, d1, g0, g1, -, -⟩ := WO.out w2 BW.out
      go_wp2
      go_region_law
        (first
          | (refine step_call rfl 27 #[.slice a1 r c1, .int .i64 x] ?_ (WO.out _ ?_).2.2.2.2.1 ?_
             · go_simp
             · first | exact BW.out | exact BW.out.drew
             rintro e w5 ⟨v5, rfl, hv5, hn5, hb5⟩
             refine ⟨v5, rfl, ?_⟩
             have hs5 : w.heap.size ≤ w5.heap.size := by have h1 := BW.out.size; have h2 := hb5.size; (try simp only [World.size_drew] at *); omega
             have BX : Below w.heap.size w w5 := by first | exact below_then BW.out BW.out.size hb5 | exact below_then BW.out.drew BW.out.drew.size hb5
             have NR : Hid (∀ k, In v5 k → w.heap.size ≤ k) := Lib.hid (fun k hk => by have h1 := BW.out.size; have h2 := hn5 k hk; (try simp only [World.size_drew] at *); omega)
             try have VF := Lib.hid (VF.out.upd (updFalse_of hb5) fun _ _ => id)
             have BW := Lib.hid BX
             obtain ⟨aR, cR, rfl, -, -⟩ := hv5.slice'
             obtain ⟨nR, hnR⟩ : ∃ n, (QueueMath.out S.R x).length = n := ⟨_, rfl⟩
             rw [hnR] at hv5 NR ⊢
             have VR := Lib.hid hv5
             obtain ⟨d0, d1, g0, g1, -, -⟩ := WO.out w5 BX
             clear hv5 hn5 hb5 BX hs5 hnR)
          | (refine step_call rfl 27 #[.slice a2 f c2, .int .i64 x] ?_ (WO.out _ ?_).2.2.2.2.2 ?_
             · go_simp
             · first | exact BW.out | exact BW.out.drew
             rintro e w5 ⟨v5, rfl, hv5, hn5, hb5⟩
             refine ⟨v5, rfl, ?_⟩
             have hs5 : w.heap.size ≤ w5.heap.size := by have h1 := BW.out.size; have h2 := hb5.size; (try simp only [World.size_drew] at *); omega
             have BX : Below w.heap.size w w5 := by first | exact below_then BW.out BW.out.size hb5 | exact below_then BW.out.drew BW.out.drew.size hb5
             have NF : Hid (∀ k, In v5 k → w.heap.size ≤ k) := Lib.hid (fun k hk => by have h1 := BW.out.size; have h2 := hn5 k hk; (try simp only [World.size_drew] at *); omega)
             try have VR := Lib.hid (VR.out.upd (updFalse_of hb5) fun _ _ => id)
             have BW := Lib.hid BX
             obtain ⟨aF, cF, rfl, -, -⟩ := hv5.slice'
             obtain ⟨nF, hnF⟩ : ∃ n, (QueueMath.out S.F x).length = n := ⟨_, rfl⟩
             rw [hnF] at hv5 NF ⊢
             have VF := Lib.hid hv5
             obtain ⟨d0, d1, g0, g1, -, -⟩ := WO.out w5 BX
             clear hv5 hn5 hb5 BX hs5 hnF))
      all_goals
        go_wp2
        go_ret
        have hE := remove_end H.out HZ.out BW.out VR.out VF.out NR.out NF.out
        exact ⟨rfl, hE⟩
    · rw [remove_none (by rw [mem_all]; rintro (h | h); exact hr1 h; exact hf1 h)]
      have e2 := Lib.hid (decide_eq_true hf1)
      clear h hb h1 h2 h3 h4 hl hr hf hZ hr1 hf1 e1
      go_enter Try.func13, Try.ntmps13
      go_wp2_with fail
      refine A1.out.mono ?_; rintro e w1 ⟨⟨k1, rfl, -, hk1⟩, hb⟩
      have B1 := Lib.hid hb
      clear hb d0
      obtain ⟨-, d1, -⟩ := WO.out w1 B1.out
      have A2 := at11_any w1 (V2.out.grew B1.out) hx
      rw [e2.out] at A2
      have A2 := Lib.hid A2
      go_wp2_with fail
      refine A2.out.mono ?_; rintro e w2 ⟨⟨k2, rfl, -, hk2⟩, hb⟩
      have BW := Lib.hid (below_then B1.out B1.out.size hb)
      clear hb d1
      go_wp2
      go_ret
      exact ⟨rfl, H.out.grew BW.out, (updFalse_of BW.out).mono fun _ x => x.elim⟩
end Go.Proofs.Ytolccandekgmoaa
