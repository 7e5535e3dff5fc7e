/- The document's own queue in memory; Push of one. -/
import Derived.Test.YtolccandekgmoaaRefQ11
namespace Go.Proofs.Ytolccandekgmoaa
open Go.RowKit QueueMath
set_option linter.unusedVariables false

/-- At block m the document's queue; none of its blocks is one of Z. -/
def RQ (Z : Nat → Prop) (w : World) (m : Nat) (S : QR) : Prop :=
  ∃ v1 v2, Blk w m 31 #[v1, v2] ∧ Arr w v1 S.R ∧ Arr w v2 S.F ∧ (∀ k, In v1 k ∨ In v2 k → ¬ Z k ∧ k ≠ m ∧ k < w.heap.size) ∧ ¬ Z m
section
variable {Z Z' T : Nat → Prop} {w w' : World} {m : Nat} {S : QR}
theorem RQ.upd (h : RQ Z w m S) (u : Upd T w w') (hT : ∀ k, T k → Z k) : RQ Z w' m S := by
  obtain ⟨v1, v2, hb, h1, h2, h3, h4⟩ := h
  exact ⟨v1, v2, hb.upd u fun x => h4 (hT m x), h1.upd u fun k hk x => (h3 k (.inl hk)).1 (hT k x), h2.upd u fun k hk x => (h3 k (.inr hk)).1 (hT k x), fun k hk => ⟨(h3 k hk).1, (h3 k hk).2.1, Nat.lt_of_lt_of_le (h3 k hk).2.2 u.size⟩, h4⟩
theorem RQ.grew (h : RQ Z w m S) (hb : Below w.heap.size w w') : RQ Z w' m S := h.upd (updFalse_of hb) fun _ x => x.elim
theorem RQ.re (h : RQ Z w m S) (hZ : ∀ k, Z' k → Z k ∨ w.heap.size ≤ k) : RQ Z' w m S := by
  obtain ⟨v1, v2, hb, h1, h2, h3, h4⟩ := h
  refine ⟨v1, v2, hb, h1, h2, fun k hk => ⟨fun x => ?_, (h3 k hk).2⟩, fun x => ?_⟩
  · rcases hZ k x with y | y
    · exact (h3 k hk).1 y
    · have := (h3 k hk).2.2; omega
  · rcases hZ m x with y | y
    · exact h4 y
    · have := hb.lt; omega
end
set_option maxRecDepth 100000 in
set_option maxHeartbeats 2000000 in
theorem rq_push {Z : Nat → Prop} {w : World} {m : Nat} {S : QR} (h : RQ Z w m S) (hZ : ∀ k, Z k → k < w.heap.size) {x : Int} (hx : I64 x) (hm : S.all.length ≤ 100000) :
    Calls Try.prog 19 #[.pointer (some ⟨m, 0, none⟩), .int .i64 x] w fun e w' => e = .returned (.int .i64 (pushE S [x]).2) ∧ RQ Z w' m (pushE S [x]).1 ∧ Upd (fun k => k = m) w w' := by
  obtain ⟨v1, v2, hb, h1, h2, h3, h4⟩ := id h
  obtain ⟨i0, hi, hz0, hz1, hz2⟩ := info_parts infoInt
  obtain ⟨a1, c1, rfl, hd1, hd2⟩ := h1.out
  obtain ⟨a2, c2, rfl, hd3, hd4⟩ := h2.out
  have hl : S.all.length = S.R.length + S.F.length := List.length_append
  obtain ⟨r, hr⟩ : ∃ r, S.R.length = r := ⟨_, rfl⟩
  obtain ⟨f, hf⟩ : ∃ f, S.F.length = f := ⟨_, rfl⟩
  rw [hr] at h1 hb h3 hd1
  rw [hf] at h2 hb h3 hd3
  have r5 : r ≤ 100000 := by omega
  have d0 : w.cell? ⟨m, 0, none⟩ = some (.slice a1 r c1) := hb.cell 0
  have d1 : w.cell? ⟨m, 1, none⟩ = some (.slice a2 f c2) := hb.cell 1
  have A1 := Lib.hid (at11_any w h1 hx)
  have H := Lib.hid h; have HB := Lib.hid hb; have V1 := Lib.hid h1; have V2 := Lib.hid h2; have H3 := Lib.hid h3; have HR := Lib.hid hr; have HZ := Lib.hid hZ; have H4 := Lib.hid h4
  by_cases hr1 : x ∈ S.R
  · rw [push_there (mem_all.2 (.inl hr1))]
    have e1 := decide_eq_true hr1
    rw [e1] at A1
    clear h hb h1 h2 h3 h4 hl hr hf hZ hr1 e1 d1
    go_enter Try.func19, Try.ntmps19
    go_wp2_with fail
    refine A1.out.mono ?_; rintro e w1 ⟨⟨k1, rfl, hk1, -⟩, hb⟩
    have B1 := Lib.hid hb
    clear hb d0
    go_wp2
    go_ret
    exact ⟨rfl, H.out.grew B1.out, (updFalse_of B1.out).mono fun _ x => x.elim⟩
  · have e1 := decide_eq_false hr1
    rw [e1] at A1
    by_cases hf1 : x ∈ S.F
    · rw [push_there (mem_all.2 (.inr hf1))]
      have e2 := Lib.hid (decide_eq_true hf1)
      clear h hb h1 h2 h3 h4 hl hr hf hZ hr1 hf1 e1
      go_enter Try.func19, Try.ntmps19
      go_wp2_with fail
      refine A1.out.mono ?_; rintro e w1 ⟨⟨k1, rfl, hk1, -⟩, hb⟩
      have B1 := Lib.hid hb
      have x1 : w1.cell? ⟨m, 1, none⟩ = some (.slice a2 f c2) := (HB.out.grew hb).cell 1
      have A2 := at11_any w1 (V2.out.grew hb) hx
      rw [e2.out] at A2
      have A2 := Lib.hid A2
      clear hb d0 d1
      go_wp2_with fail
      refine A2.out.mono ?_; rintro e w2 ⟨⟨k2, rfl, hk2, -⟩, hb⟩
      have B2 := Lib.hid (below_then B1.out B1.out.size hb)
      clear hb x1
      go_wp2
      go_ret
      exact ⟨rfl, H.out.grew B2.out, (updFalse_of B2.out).mono fun _ x => x.elim⟩
    · rw [push_new (by rw [mem_all]; rintro (h | h); exact hr1 h; exact hf1 h)]
      have e2 := Lib.hid (decide_eq_false hf1)
      clear h hb h1 h2 h3 h4 hl hr hf hZ hr1 hf1 e1
      go_enter Try.func19, Try.ntmps19
      go_wp2_with fail
      refine A1.out.mono ?_; rintro e w1 ⟨⟨k1, rfl, hk1, -⟩, hb⟩
      have B1 := Lib.hid hb
      have x1 : w1.cell? ⟨m, 1, none⟩ = some (.slice a2 f c2) := (HB.out.grew hb).cell 1
      have A2 := at11_any w1 (V2.out.grew hb) hx
      rw [e2.out] at A2
      have A2 := Lib.hid A2
      clear hb d0 d1
      go_wp2_with fail
      refine A2.out.mono ?_; rintro e w2 ⟨⟨k2, rfl, hk2, -⟩, hb⟩
      have B2 := Lib.hid (below_then B1.out B1.out.size hb)
      have x0 : w2.cell? ⟨m, 0, none⟩ = some (.slice a1 r c1) := (HB.out.grew B2.out).cell 0
      have hlt : m < w2.heap.size := Nat.lt_of_lt_of_le HB.out.lt B2.out.size
      have ne1 : w2.heap.size ≠ m := by omega
      have V12 := Lib.hid (V1.out.grew B2.out)
      clear hb x1
      go_wp2_with (first
        | (at_builtin; refine wpList_append_vec (E := Elem.ints) rfl (.tmp 22) (.tmp 26) 23 rfl 3 i0 (.int .i64 0) 8 Try.underlying23 hi hz0 hz1 hz2 rfl (.slice (some ⟨w2.heap.size, 0, none⟩) 0 0) (.slice a1 r c1) [] S.R ?_ ?_ (Vec.new w2 _) (V12.out.seq.alloc _) ?_ ?_ ?_; go_simp; go_simp; (rw [HR.out]; simp only [maxLen, List.length_nil]; omega); (rw [HR.out]; simp only [List.length_nil]; omega); intro v5 w5 hv5 hu5 hin5; have V5 := Lib.hid hv5; have U5 := Lib.hid hu5; have N5 := Lib.hid hin5; clear hv5 hu5 hin5 x0)
        | (at_builtin; refine wpList_append_vec (E := Elem.ints) rfl (.tmp 27) (.tmp 29) 23 rfl 3 i0 (.int .i64 0) 8 Try.underlying23 hi hz0 hz1 hz2 rfl v5 (.slice (some ⟨w5.heap.size, 0, none⟩) 1 1) ([] ++ S.R) [x] ?_ ?_ (V5.out.alloc _) (Seq.new w5 _ [x] 1) ?_ ?_ ?_; go_simp; go_simp; (rw [List.nil_append, HR.out]; simp only [maxLen, List.length_cons, List.length_nil]; omega); (rw [List.nil_append, HR.out]; simp only [List.length_cons, List.length_nil]; omega); intro v6 w6 hv6 hu6 hin6; obtain ⟨a6, c6, rfl, hq1, hq2⟩ := hv6.slice'; obtain ⟨q, hq⟩ : ∃ q, ([] ++ S.R ++ [x]).length = q := ⟨_, rfl⟩; rw [hq] at hv6 hin6 ⊢; have V6 := Lib.hid hv6; have U6 := Lib.hid hu6
           have M5 : Hid (∀ k, In v5 k → w2.heap.size ≤ k) := Lib.hid (fun k hk => by
             rcases N5.out k hk with z | z
             · have := in_blk z; omega
             · rw [World.size_alloc] at z; omega)
           have s5 : w2.heap.size ≤ w5.heap.size := by have := U5.out.size; rw [World.size_alloc] at this; omega
           have M6 : Hid (∀ k, In (.slice a6 q c6) k → w2.heap.size ≤ k) := Lib.hid (fun k hk => by
             rcases hin6 k hk with z | z
             · exact M5.out k z
             · rw [World.size_alloc] at z; omega)
           have K6 : Hid (Blk w6 m 31 #[.slice a1 r c1, .slice a2 f c2]) := Lib.hid (((((HB.out.grew B2.out).alloc _).upd U5.out (fun z => by have := in_blk z; omega)).alloc _).upd U6.out (fun z => by have := M5.out m z; omega))
           have B6 : Hid (Below w.heap.size w w6) := Lib.hid ((((B2.out.alloc B2.out.size (.cells #[] 3)).trans (U5.out.below (fun k hk => by have := in_blk hk; have := B2.out.size; omega) (by have := B2.out.size; rw [World.size_alloc]; omega))).alloc (by have := B2.out.size; omega) (.cells #[.int .i64 x] 3)).trans (U6.out.below (fun k hk => by have := M5.out k hk; have := B2.out.size; omega) (by have := B2.out.size; rw [World.size_alloc]; omega)))
           have x6 : w6.cell? ⟨m, 0, none⟩ = some (.slice a1 r c1) := K6.out.cell 0
           have fz6 : w6.frozen? ⟨m, 0, none⟩ = false := K6.out.frozen 0
           clear hv6 hu6 hin6 s5 hq hq1))
      go_wp2
      go_ret
      have hset : Upd (fun k => k = m) w6 (w6.setCell ⟨m, 0, none⟩ (.slice a6 q c6)) := (Upd.refl (fun k => k = m) w6).setCell (p := ⟨m, 0, none⟩) (.inl rfl) (.slice a6 q c6)
      have V7 := V6.out.upd hset fun k hk e => by have := M6.out k hk; omega
      rw [List.nil_append] at V7
      refine ⟨rfl, ⟨.slice a6 q c6, .slice a2 f c2, ?_, V7.arr ?_, ?_, fun k hk => ?_, H4.out⟩, ((updFalse_of B6.out).mono fun _ x => x.elim).trans hset⟩
      · have := K6.out.put 0 (.slice a6 q c6)
        simpa using this
      · intro y hy
        rcases List.mem_append.1 hy with hy | hy
        · exact V1.out.wf y hy
        · rw [List.mem_singleton.1 hy]; exact hx
      · exact (V2.out.grew B6.out).upd hset fun k hk e => (H3.out k (.inr hk)).2.1 e
      · rcases hk with hk | hk
        · exact ⟨fun z => by have := HZ.out k z; have := M6.out k hk; have := B2.out.size; omega, fun e => by have := M6.out k hk; omega, V7.lt hk⟩
        · have h5 := H3.out k (.inr hk)
          exact ⟨h5.1, h5.2.1, by rw [World.size_setCell]; exact Nat.lt_of_lt_of_le h5.2.2 B6.out.size⟩
end Go.Proofs.Ytolccandekgmoaa
