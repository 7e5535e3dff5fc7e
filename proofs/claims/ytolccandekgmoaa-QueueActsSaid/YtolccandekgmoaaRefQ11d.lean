/- The document's own queue: Fill and Wake. Written by genrefq.py. -/
import Derived.Test.YtolccandekgmoaaMoveF
import Derived.Test.YtolccandekgmoaaMoveW
namespace Go.Proofs.Ytolccandekgmoaa
open Go.RowKit QueueMath
set_option linter.unusedVariables false
set_option maxRecDepth 100000

/-- Behind a call and two appends: the two rows are put. -/
theorem moved_end {Z : Nat → Prop} {w w6 : World} {m : Nat} {S : QR} {A B : List Int} {i j : Nat} {a1 a2 : Option Addr} {n1 n2 c1 c2 : Nat} (h : RQ Z w m S) (hZ : ∀ k, Z k → k < w.heap.size) (b6 : Below w.heap.size w w6) (hij : i = 0 ∧ j = 1 ∨ i = 1 ∧ j = 0)
    (V1 : Vec Elem.ints w6 (.slice a1 n1 c1) A) (V2 : Vec Elem.ints w6 (.slice a2 n2 c2) B) (N1 : ∀ k, In (.slice a1 n1 c1) k → w.heap.size ≤ k) (N2 : ∀ k, In (.slice a2 n2 c2) k → w.heap.size ≤ k) (hA : ∀ y ∈ A, I64 y) (hB : ∀ y ∈ B, I64 y) :
    RQ Z ((w6.setCell ⟨m, i, none⟩ (.slice a1 n1 c1)).setCell ⟨m, j, none⟩ (.slice a2 n2 c2)) m (if i = 0 then ⟨A, B⟩ else ⟨B, A⟩) ∧ Upd (fun k => k = m) w ((w6.setCell ⟨m, i, none⟩ (.slice a1 n1 c1)).setCell ⟨m, j, none⟩ (.slice a2 n2 c2)) := by
  obtain ⟨v1, v2, hb, h1, h2, h3, h4⟩ := h
  have u := ((Upd.refl (fun k => k = m) w6).setCell (p := ⟨m, i, none⟩) (.inl rfl) (.slice a1 n1 c1)).setCell (p := ⟨m, j, none⟩) (.inl rfl) (.slice a2 n2 c2)
  have k6 := (((hb.grew b6).put i (.slice a1 n1 c1)).put j (.slice a2 n2 c2))
  have hlt := hb.lt
  have hn1 : ∀ k, In (.slice a1 n1 c1) k → k ≠ m := fun k hk e => by have := N1 k hk; omega
  have hn2 : ∀ k, In (.slice a2 n2 c2) k → k ≠ m := fun k hk e => by have := N2 k hk; omega
  have W1 := V1.upd u hn1
  have W2 := V2.upd u hn2
  refine ⟨?_, ((updFalse_of b6).mono fun _ x => x.elim).trans u⟩
  rcases hij with ⟨rfl, rfl⟩ | ⟨rfl, rfl⟩
  · refine ⟨.slice a1 n1 c1, .slice a2 n2 c2, by simpa using k6, W1.arr hA, W2.arr hB, fun k hk => ?_, h4⟩
    rcases hk with hk | hk
    · exact ⟨fun z => by have := hZ k z; have := N1 k hk; omega, hn1 k hk, W1.lt hk⟩
    · exact ⟨fun z => by have := hZ k z; have := N2 k hk; omega, hn2 k hk, W2.lt hk⟩
  · refine ⟨.slice a2 n2 c2, .slice a1 n1 c1, by simpa using k6, W2.arr hB, W1.arr hA, fun k hk => ?_, h4⟩
    rcases hk with hk | hk
    · exact ⟨fun z => by have := hZ k z; have := N2 k hk; omega, hn2 k hk, W2.lt hk⟩
    · exact ⟨fun z => by have := hZ k z; have := N1 k hk; omega, hn1 k hk, W1.lt hk⟩
set_option maxHeartbeats 4000000 in
theorem rq_fill {Z : Nat → Prop} {w : World} {m : Nat} {S : QR} (h : RQ Z w m S) (hZ : ∀ k, Z k → k < w.heap.size) {x : Int} (hx : I64 x) (hm : S.all.length ≤ 100000) :
    Calls Try.prog 15 #[.pointer (some ⟨m, 0, none⟩), .int .i64 x] w fun e w' => e = .returned (.int .i64 (fillE S x).2) ∧ RQ Z w' m (fillE S x).1 ∧ Upd (fun k => k = m) w w' := by
  obtain ⟨v1, v2, hb, h1, h2, h3, h4⟩ := id h
  obtain ⟨a1, c1, rfl, hd1, hd2⟩ := h1.out
  obtain ⟨a2, c2, rfl, hd3, hd4⟩ := h2.out
  have hl : S.all.length = S.R.length + S.F.length := List.length_append
  obtain ⟨r, hr⟩ : ∃ r, S.R.length = r := ⟨_, rfl⟩
  obtain ⟨f, hf⟩ : ∃ f, S.F.length = f := ⟨_, rfl⟩
  rw [hr] at h1 hb h3 hd1
  rw [hf] at h2 hb h3 hd3
  have BIG : Hid (S.R.length ≤ 100000 ∧ S.F.length ≤ 100000) := Lib.hid (by omega)
  have H := Lib.hid h; have HB := Lib.hid hb; have V1 := Lib.hid h1; have V2 := Lib.hid h2; have HZ := Lib.hid hZ; have HX := Lib.hid hx
  have CX : Hid (MvF.Ctx w m x (.slice a1 r c1) (.slice a2 f c2) (QueueMath.out S.R x) S.F) := Lib.hid ⟨fun W hbw => by
      have k := HB.out.grew hbw
      exact ⟨k.cell 0, k.cell 1, k.frozen 0, k.frozen 1, (V2.out.grew hbw).seq, without11_any W (V1.out.grew hbw) hx (by have := BIG.out; show _ ≤ 1000000; omega)⟩,
    by have := BIG.out; omega, ⟨_, _, _, rfl⟩, ⟨_, _, _, rfl⟩⟩
  have d0 := (CX.out.doc w (Below.refl _ _)).1
  have A1 := Lib.hid (at11_any w h1 hx)
  by_cases hr1 : x ∈ S.R
  · rw [fill_yes hr1]
    have e1 := decide_eq_false (show ¬ x ∉ S.R from fun hh => hh hr1)
    rw [e1] at A1
    clear h hb h1 h2 h3 h4 hl hr hf hZ hr1 e1 hm hx
    go_enter Try.func15, Try.ntmps15
    go_wp2_with fail
    refine A1.out.mono ?_; rintro e w1 ⟨⟨k1, rfl, -, hk1⟩, hb⟩
    have B1 := Lib.hid hb
    clear hb d0
    go_wp2
    refine wp_region_any (by kernel_rfl) ?_
    refine MvF.start (k1 := k1) ?_ CX.out ?_ (fun _ _ _ _ _ h => h) B1.out.drew
    · constructor
      all_goals first | exact ⟨_, _, _, rfl⟩ | kernel_rfl | (intro o ho; injection ho with ho; subst ho; rfl)
    intro W aA aB nA cA nB cB s20 s25 s27 BW VA VB NA NB
    have hE := moved_end H.out HZ.out BW (i := 0) (j := 1) (.inl ⟨rfl, rfl⟩) VA VB NA NB (fun y hy => V1.out.wf y (mem_out.1 hy).1) (fun y hy => by
        rcases List.mem_append.1 hy with hy | hy
        · exact V2.out.wf y (by simpa using hy)
        · rw [List.mem_singleton.1 hy]; exact HX.out)
    have HE := Lib.hid hE
    unfold MvF.fr
    clear BW VA VB NA NB hE
    go_wp2
    go_ret
    exact ⟨rfl, HE.out⟩
  · rw [show fillE S x = (S, 5) from if_neg hr1]
    have e1 := decide_eq_true hr1
    rw [e1] at A1
    clear h hb h1 h2 h3 h4 hl hr hf hZ hr1 e1 hm hx
    go_enter Try.func15, Try.ntmps15
    go_wp2_with fail
    refine A1.out.mono ?_; rintro e w1 ⟨⟨k1, rfl, -, hk1⟩, hb⟩
    have B1 := Lib.hid hb
    clear hb d0
    go_wp2
    go_ret
    exact ⟨rfl, H.out.grew B1.out, (updFalse_of B1.out).mono fun _ x => x.elim⟩
set_option maxHeartbeats 4000000 in
theorem rq_wake {Z : Nat → Prop} {w : World} {m : Nat} {S : QR} (h : RQ Z w m S) (hZ : ∀ k, Z k → k < w.heap.size) {x : Int} (hx : I64 x) (hm : S.all.length ≤ 100000) :
    Calls Try.prog 17 #[.pointer (some ⟨m, 0, none⟩), .int .i64 x] w fun e w' => e = .returned (.int .i64 (wakeE S x).2) ∧ RQ Z w' m (wakeE S x).1 ∧ Upd (fun k => k = m) w w' := by
  obtain ⟨v1, v2, hb, h1, h2, h3, h4⟩ := id h
  obtain ⟨a1, c1, rfl, hd1, hd2⟩ := h1.out
  obtain ⟨a2, c2, rfl, hd3, hd4⟩ := h2.out
  have hl : S.all.length = S.R.length + S.F.length := List.length_append
  obtain ⟨r, hr⟩ : ∃ r, S.R.length = r := ⟨_, rfl⟩
  obtain ⟨f, hf⟩ : ∃ f, S.F.length = f := ⟨_, rfl⟩
  rw [hr] at h1 hb h3 hd1
  rw [hf] at h2 hb h3 hd3
  have BIG : Hid (S.R.length ≤ 100000 ∧ S.F.length ≤ 100000) := Lib.hid (by omega)
  have H := Lib.hid h; have HB := Lib.hid hb; have V1 := Lib.hid h1; have V2 := Lib.hid h2; have HZ := Lib.hid hZ; have HX := Lib.hid hx
  have CX : Hid (MvW.Ctx w m x (.slice a2 f c2) (.slice a1 r c1) (QueueMath.out S.F x) S.R) := Lib.hid ⟨fun W hbw => by
      have k := HB.out.grew hbw
      exact ⟨k.cell 1, k.cell 0, k.frozen 1, k.frozen 0, (V1.out.grew hbw).seq, without11_any W (V2.out.grew hbw) hx (by have := BIG.out; show _ ≤ 1000000; omega)⟩,
    by have := BIG.out; omega, ⟨_, _, _, rfl⟩, ⟨_, _, _, rfl⟩⟩
  have d1 := (CX.out.doc w (Below.refl _ _)).1
  have A1 := Lib.hid (at11_any w h2 hx)
  by_cases hr1 : x ∈ S.F
  · rw [wake_yes hr1]
    have e1 := decide_eq_false (show ¬ x ∉ S.F from fun hh => hh hr1)
    rw [e1] at A1
    clear h hb h1 h2 h3 h4 hl hr hf hZ hr1 e1 hm hx
    go_enter Try.func17, Try.ntmps17
    go_wp2_with fail
    refine A1.out.mono ?_; rintro e w1 ⟨⟨k1, rfl, -, hk1⟩, hb⟩
    have B1 := Lib.hid hb
    clear hb d1
    go_wp2
    refine wp_region_any (by kernel_rfl) ?_
    refine MvW.start (k1 := k1) ?_ CX.out ?_ (fun _ _ _ _ _ h => h) B1.out.drew
    · constructor
      all_goals first | exact ⟨_, _, _, rfl⟩ | kernel_rfl | (intro o ho; injection ho with ho; subst ho; rfl)
    intro W aA aB nA cA nB cB s20 s25 s27 BW VA VB NA NB
    have hE := moved_end H.out HZ.out BW (i := 1) (j := 0) (.inr ⟨rfl, rfl⟩) VA VB NA NB (fun y hy => V2.out.wf y (mem_out.1 hy).1) (fun y hy => by
        rcases List.mem_append.1 hy with hy | hy
        · exact V1.out.wf y (by simpa using hy)
        · rw [List.mem_singleton.1 hy]; exact HX.out)
    have HE := Lib.hid hE
    unfold MvW.fr
    clear BW VA VB NA NB hE
    go_wp2
    go_ret
    exact ⟨rfl, HE.out⟩
  · rw [show wakeE S x = (S, 5) from if_neg hr1]
    have e1 := decide_eq_true hr1
    rw [e1] at A1
    clear h hb h1 h2 h3 h4 hl hr hf hZ hr1 e1 hm hx
    go_enter Try.func17, Try.ntmps17
    go_wp2_with fail
    refine A1.out.mono ?_; rintro e w1 ⟨⟨k1, rfl, -, hk1⟩, hb⟩
    have B1 := Lib.hid hb
    clear hb d1
    go_wp2
    go_ret
    exact ⟨rfl, H.out.grew B1.out, (updFalse_of B1.out).mono fun _ x => x.elim⟩
end Go.Proofs.Ytolccandekgmoaa
