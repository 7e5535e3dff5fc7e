/- The landed stack: moves, step by step. -/
import Derived.Test.YtgaecgijmnkdgaaStackC
namespace Go.Proofs.Ytgaecgijmnkdgaa
open Go.RowKit StackMath
set_option linter.unusedVariables false
set_option maxRecDepth 100000

/-- A move's cells. -/
def mvC (s o : Nat) (M : MV) : Array Value := #[.pointer (some ⟨s, o, none⟩), .bool M.push, .int .i64 (M.place : Int), .bool M.looked, .int .i64 M.top, .int .u64 (M.tag : Int), .bool M.over]
def MK (w : World) (m s o : Nat) (M : MV) : Prop := Blk w m 73 (mvC s o M)
section
variable {w w' : World} {m s o : Nat} {M : MV}
theorem MK.lt (h : MK w m s o M) : m < w.heap.size := Blk.lt h
theorem MK.upd {T : Nat → Prop} (h : MK w m s o M) (u : Upd T w w') (ht : ¬ T m) : MK w' m s o M := Blk.upd h u ht
theorem MK.grew (h : MK w m s o M) (hb : Below w.heap.size w w') : MK w' m s o M := h.upd (updFalse_of hb) id
theorem MK.wrt {C : Nat → Nat → Prop} (h : MK w m s o M) (u : Wrt (fun _ => False) C w w') (ht : ∀ i, ¬ C m i) : MK w' m s o M := h.upd u.upd (by rintro (k | ⟨i, k⟩); exact k; exact ht i k)
theorem MK.put (h : MK w m s o M) (i : Nat) (v : Value) (M' : MV) (e : (mvC s o M).setIfInBounds i v = mvC s o M') : MK (w.setCell ⟨m, i, none⟩ v) m s o M' := by
  have := Blk.put h i v
  rw [e] at this
  exact this
theorem MK.c0 (h : MK w m s o M) : w.cell? ⟨m, 0, none⟩ = some (.pointer (some ⟨s, o, none⟩)) := Blk.cell h 0
theorem MK.c1 (h : MK w m s o M) : w.cell? ⟨m, 1, none⟩ = some (.bool M.push) := Blk.cell h 1
theorem MK.c2 (h : MK w m s o M) : w.cell? ⟨m, 2, none⟩ = some (.int .i64 (M.place : Int)) := Blk.cell h 2
theorem MK.c3 (h : MK w m s o M) : w.cell? ⟨m, 3, none⟩ = some (.bool M.looked) := Blk.cell h 3
theorem MK.c4 (h : MK w m s o M) : w.cell? ⟨m, 4, none⟩ = some (.int .i64 M.top) := Blk.cell h 4
theorem MK.c5 (h : MK w m s o M) : w.cell? ⟨m, 5, none⟩ = some (.int .u64 (M.tag : Int)) := Blk.cell h 5
theorem MK.c6 (h : MK w m s o M) : w.cell? ⟨m, 6, none⟩ = some (.bool M.over) := Blk.cell h 6
end
theorem SK.set {w : World} {m s o : Nat} {S : SS} (h : SK w s o S) (hne : m ≠ s) (i : Nat) (v : Value) : SK (w.setCell ⟨m, i, none⟩ v) s o S := h.upd ((Upd.refl (fun k => k = m) w).setCell (.inl rfl) v) (fun e => hne e.symm)
/-- What a step may write. -/
def StW (m s o : Nat) (w w' : World) : Prop := Wrt (fun b => b = m) (SPl s o) w w'
theorem StW.of {m s o : Nat} {w w' : World} (h : Wrt (fun _ => False) (SPl s o) w w') : StW m s o w w' := h.mono (fun _ h => h.elim) (fun b i h => .inr h)
theorem StW.set {m s o : Nat} {w w' : World} (h : StW m s o w w') (i : Nat) (v : Value) : StW m s o w (w'.setCell ⟨m, i, none⟩ v) :=
  h.upd' (S' := fun b => b = m) ((Upd.refl (fun b => b = m) w').setCell (.inl rfl) v) (fun b h => h)
theorem StW.drewN {m s o : Nat} {w w' : World} (h : StW m s o w w') (k : Nat) : StW m s o w (w'.drewN k) := ⟨⟨h.upd.os, h.upd.tape, h.upd.output, h.upd.size, h.upd.block⟩, h.blk⟩
theorem done_any (w : World) {m s o : Nat} {M : MV} (k : MK w m s o M) : Calls Try.prog 15 #[.pointer (some ⟨m, 0, none⟩)] w fun e w' => e = .returned (.bool M.over) ∧ w' = w := by
  have c0 := k.c0; have c6 := k.c6
  obtain ⟨b, hb⟩ : ∃ b, M.over = b := ⟨_, rfl⟩
  rw [hb] at c6 ⊢
  clear k hb
  go_enter Try.func15, Try.ntmps15
  go_wp2
  go_ret
  exact ⟨rfl, rfl⟩
theorem place_any (w : World) {m s o : Nat} {M : MV} (k : MK w m s o M) : Calls Try.prog 16 #[.pointer (some ⟨m, 0, none⟩)] w fun e w' => e = .returned (.int .i64 (placeE M)) ∧ w' = w := by
  obtain ⟨bp, pl, lo, tp, tg, ov⟩ := M
  have c1 : w.cell? ⟨m, 1, none⟩ = some (.bool bp) := k.c1
  have c2 : w.cell? ⟨m, 2, none⟩ = some (.int .i64 (pl : Int)) := k.c2
  have c4 : w.cell? ⟨m, 4, none⟩ = some (.int .i64 tp) := k.c4
  have c6 : w.cell? ⟨m, 6, none⟩ = some (.bool ov) := k.c6
  clear k
  cases bp with
  | true =>
    show Calls _ _ _ _ fun e w' => e = .returned (.int .i64 (pl : Int)) ∧ w' = w
    go_enter Try.func16, Try.ntmps16
    go_wp2
    go_ret
    exact ⟨rfl, rfl⟩
  | false =>
    cases ov with
    | true =>
      show Calls _ _ _ _ fun e w' => e = .returned (.int .i64 tp) ∧ w' = w
      go_enter Try.func16, Try.ntmps16
      go_wp2
      go_ret
      exact ⟨rfl, rfl⟩
    | false =>
      show Calls _ _ _ _ fun e w' => e = .returned (.int .i64 (-1)) ∧ w' = w
      go_enter Try.func16, Try.ntmps16
      go_wp2
      go_ret
      exact ⟨rfl, rfl⟩
theorem newPush (w : World) {s o p : Nat} (hp : p < 64) : Calls Try.prog 11 #[.pointer (some ⟨s, o, none⟩), .int .i64 (p : Int)] w fun e w' => e = .returned (.tuple #[.pointer (some ⟨w.heap.size, 0, none⟩), .int .i64 0]) ∧ MK w' w.heap.size s o (mPush p) ∧ Below w.heap.size w w' ∧ w'.heap.size = w.heap.size + 1 := by
  have P := Lib.hid (fun w' => isPlace_yes w' hp)
  go_enter Try.func11, Try.ntmps11
  go_wp2_with fail
  refine (P.out _).mono ?_; rintro e w1 ⟨rfl, rfl⟩
  go_wp2
  go_ret2
  exact ⟨rfl, Blk.new w1 _ _, (Below.refl _ _).alloc (Nat.le_refl _) _, World.size_alloc _ _⟩
theorem newPush_bad (w : World) {s o : Nat} {p : Int} (hp : p < 0 ∨ 64 ≤ p) : Calls Try.prog 11 #[.pointer (some ⟨s, o, none⟩), .int .i64 p] w fun e w' => e = .returned (.tuple #[.pointer none, .int .i64 2]) ∧ w' = w := by
  have P := Lib.hid (fun w' => isPlace_no w' hp)
  clear hp
  go_enter Try.func11, Try.ntmps11
  go_wp2_with fail
  refine (P.out _).mono ?_; rintro e w1 ⟨rfl, rfl⟩
  go_wp2
  go_ret2
  exact ⟨rfl, rfl⟩
theorem newPop (w : World) {s o : Nat} : Calls Try.prog 12 #[.pointer (some ⟨s, o, none⟩)] w fun e w' => e = .returned (.tuple #[.pointer (some ⟨w.heap.size, 0, none⟩), .int .i64 0]) ∧ MK w' w.heap.size s o mPop ∧ Below w.heap.size w w' ∧ w'.heap.size = w.heap.size + 1 := by
  go_enter Try.func12, Try.ntmps12
  go_wp2
  go_ret2
  exact ⟨rfl, Blk.new w _ _, (Below.refl _ _).alloc (Nat.le_refl _) _, World.size_alloc _ _⟩
theorem newPop_nil (w : World) : Calls Try.prog 12 #[.pointer none] w fun e w' => e = .returned (.tuple #[.pointer none, .int .i64 1]) ∧ w' = w := by
  go_enter Try.func12, Try.ntmps12
  go_wp2
  go_ret2
  exact ⟨rfl, rfl⟩
/-! ### Steps -/
theorem look_step (w : World) {m s o : Nat} {S : SS} {M : MV} (h : SK w s o S) (g : GoodS S) (hm : ManyB S) (k : MK w m s o M) (hne : m ≠ s) :
    Calls Try.prog 26 #[.pointer (some ⟨m, 0, none⟩)] w fun e w' => e = .returned (.tuple #[]) ∧ SK w' s o (lookE S M).1 ∧ MK w' m s o (lookE S M).2 ∧ StW m s o w w' := by
  have c0 := k.c0
  have L := Lib.hid (look_any w h g hm)
  obtain ⟨bp, pl, lo, tp, tg, ov⟩ := M
  obtain ⟨z, hz⟩ : ∃ z, topI S.L = z := ⟨_, rfl⟩
  rw [hz] at L
  obtain ⟨t, ht⟩ : ∃ t, S.t = t := ⟨_, rfl⟩
  rw [ht] at L
  obtain ⟨b, hb⟩ : ∃ b, decide (z = -1) = b := ⟨_, rfl⟩
  have tz : ((z : Int) == -1) = b := by rw [← hb]; rfl
  have HZ := Lib.hid (And.intro hz (And.intro ht hb))
  have K := Lib.hid k
  clear h g hm k hz ht hb
  cases bp with
  | true =>
    go_enter Try.func26, Try.ntmps26
    go_wp2_with fail
    refine L.out.mono ?_; rintro e w1 ⟨rfl, h1, u1⟩
    have k1 : MK w1 m s o _ := K.out.wrt u1 (fun i h => hne h.1)
    have d1 := k1.c1
    have f3 := Blk.frozen k1 3; have f4 := Blk.frozen k1 4; have f5 := Blk.frozen k1 5; have f6 := Blk.frozen k1 6
    have d3 := k1.c3; have d4 := k1.c4; have d5 := k1.c5; have d6 := k1.c6
    simp only at d1 d3 d4 d5 d6
    have K1 := Lib.hid k1; have H1 := Lib.hid h1; have U1 := Lib.hid u1
    clear k1 h1 u1 c0
    go_wp2
    refine bodyPost_end (results_none rfl _ _ _) rfl ?_
    obtain ⟨e1, e2, e3⟩ := HZ.out
    have kk := (((K1.out.put 4 (.int .i64 z) ⟨true, pl, lo, z, tg, ov⟩ rfl).put 5 (.int .u64 (t : Int)) ⟨true, pl, lo, z, t, ov⟩ rfl).put 3 (.bool true) ⟨true, pl, true, z, t, ov⟩ rfl).put 6 (.bool false) ⟨true, pl, true, z, t, false⟩ rfl
    refine ⟨rfl, ?_, ?_, (((((StW.of (U1.out.mono (fun _ h => h) (fun b i hc => .inr hc.spl))).set 4 _).set 5 _).set 3 _).set 6 _)⟩
    · have hs := H1.out
      rw [← e2] at hs
      exact (((hs.set hne 4 _).set hne 5 _).set hne 3 _).set hne 6 _
    · simp only [lookE, e1, e2, e3, Bool.not_true, Bool.false_and]
      exact kk
  | false =>
    go_enter Try.func26, Try.ntmps26
    go_wp2_with fail
    refine L.out.mono ?_; rintro e w1 ⟨rfl, h1, u1⟩
    have k1 : MK w1 m s o _ := K.out.wrt u1 (fun i h => hne h.1)
    have d1 := k1.c1
    have f3 := Blk.frozen k1 3; have f4 := Blk.frozen k1 4; have f5 := Blk.frozen k1 5; have f6 := Blk.frozen k1 6
    have d3 := k1.c3; have d4 := k1.c4; have d5 := k1.c5; have d6 := k1.c6
    simp only at d1 d3 d4 d5 d6
    have K1 := Lib.hid k1; have H1 := Lib.hid h1; have U1 := Lib.hid u1
    clear k1 h1 u1 c0
    go_wp2
    refine bodyPost_end (results_none rfl _ _ _) rfl ?_
    obtain ⟨e1, e2, e3⟩ := HZ.out
    have kk := (((K1.out.put 4 (.int .i64 z) ⟨false, pl, lo, z, tg, ov⟩ rfl).put 5 (.int .u64 (t : Int)) ⟨false, pl, lo, z, t, ov⟩ rfl).put 3 (.bool true) ⟨false, pl, true, z, t, ov⟩ rfl).put 6 (.bool b) ⟨false, pl, true, z, t, b⟩ rfl
    refine ⟨rfl, ?_, ?_, (((((StW.of (U1.out.mono (fun _ h => h) (fun b i hc => .inr hc.spl))).set 4 _).set 5 _).set 3 _).set 6 _)⟩
    · have hs := H1.out
      rw [← e2] at hs
      exact (((hs.set hne 4 _).set hne 5 _).set hne 3 _).set hne 6 _
    · simp only [lookE, e1, e2, e3, Bool.not_false, Bool.true_and]
      exact kk
/-- The step that puts: what is known of Put's answer (went, e). -/
theorem put_step (w : World) {m s o : Nat} {S : SS} {M : MV} (h : SK w s o S) (g : GoodS S) (gm : GoodM S M) (hm : ManyB S) (k : MK w m s o M) (hne : m ≠ s) :
    Calls Try.prog 27 #[.pointer (some ⟨m, 0, none⟩)] w fun e w' => e = .returned (.tuple #[]) ∧ SK w' s o (putE S M).1 ∧ MK w' m s o (putE S M).2 ∧ StW m s o w w' := by
  obtain ⟨bp, pl, lo, tp, tg, ov⟩ := M
  have c0 := k.c0; have c2 := k.c2; have c4 := k.c4; have c5 := k.c5
  simp only at c2 c4 c5
  -- what Put makes, by cases
  obtain ⟨S', go, er, ovr, hE, hP⟩ : ∃ (S' : SS) (go : Bool) (er : Int) (ovr : Bool), (putE S ⟨bp, pl, lo, tp, tg, ov⟩ = (S', ⟨bp, pl, false, tp, tg, ovr⟩) ∧ ((go = true ∧ ovr = true) ∨ (go = false ∧ (er == 6) = ovr))) ∧
      ∀ w' : World, SK w' s o S → Calls Try.prog 23 #[.pointer (some ⟨s, o, none⟩), .int .i64 (pl : Int), .int .i64 tp, .int .u64 (tg : Int)] w' fun e w2 => e = .returned (.tuple #[.bool go, .int .i64 er]) ∧ SK w2 s o S' ∧ Wrt (fun _ => False) (SPl s o) w' w2 := by
    by_cases hp : pl ∈ S.L
    · refine ⟨S, false, 6, true, ⟨by simp [putE, hp], .inr ⟨rfl, rfl⟩⟩, fun w' h' => (put_any w' h' g hm gm.pl gm.lo.1 gm.lo.2 gm.tg).mono fun e w2 k => k.1 hp⟩
    · by_cases ht : tg = S.t
      · refine ⟨⟨pl :: S.L, putB S.B pl (wordI tp), S.t + 1, S.n + 1⟩, true, 0, true, ⟨by simp [putE, hp, ht], .inl ⟨rfl, rfl⟩⟩, fun w' h' => (put_any w' h' g hm gm.pl gm.lo.1 gm.lo.2 gm.tg).mono fun e w2 k => ?_⟩
        have := k.2 hp
        simp only [putS, ht, if_true, decide_true] at this
        exact this
      · refine ⟨⟨S.L, putB S.B pl (wordI tp), S.t, S.n + 1⟩, false, 0, false, ⟨by simp [putE, hp, ht], .inr ⟨rfl, rfl⟩⟩, fun w' h' => (put_any w' h' g hm gm.pl gm.lo.1 gm.lo.2 gm.tg).mono fun e w2 k => ?_⟩
        have := k.2 hp
        simp only [putS, ht, if_false, decide_false] at this
        exact this
  rw [hE.1]
  have HE := Lib.hid hE.2; have HP := Lib.hid hP; have K := Lib.hid k; have H := Lib.hid h
  clear hE hP h g gm hm k
  rcases HE.out with ⟨rfl, rfl⟩ | ⟨rfl, hov⟩
  · go_enter Try.func27, Try.ntmps27
    go_wp2
    go_region_held3 (fun w' => w'.cell? ⟨m, 0, none⟩ = some (.pointer (some ⟨s, o, none⟩)) ∧ w'.cell? ⟨m, 2, none⟩ = some (.int .i64 (pl : Int)) ∧ w'.cell? ⟨m, 4, none⟩ = some (.int .i64 tp) ∧ w'.cell? ⟨m, 5, none⟩ = some (.int .u64 (tg : Int))) (first | go_keep | exact ⟨c0, c2, c4, c5⟩) (first | (go_at_call 23; (first | (with_reducible refine (HP.out _ H.out).mono ?_) | (refine (HP.out _ (show SK w.drew s o _ from H.out)).mono ?_)); rintro e w7 ⟨rfl, h7, u7⟩; have k7 := (show MK w.drew m s o _ from K.out).wrt u7 (fun i h => hne h.1); have c0 := k7.c0; have c2 := k7.c2; have c4 := k7.c4; have c5 := k7.c5; have H7 := Lib.hid h7; have U7 := Lib.hid u7; have K7 := Lib.hid k7; have d3 := k7.c3; have d6 := k7.c6; have f3 := Blk.frozen k7 3; have f6 := Blk.frozen k7 6; simp only at c2 c4 c5 d3 d6; clear h7 u7 k7))
    go_wp2
    refine bodyPost_end (results_none rfl _ _ _) rfl ?_
    exact ⟨rfl, (H7.out.set hne 3 _).set hne 6 _, (K7.out.put 3 (.bool false) ⟨bp, pl, false, tp, tg, ov⟩ rfl).put 6 (.bool true) ⟨bp, pl, false, tp, tg, true⟩ rfl, ((StW.of (((Wrt.refl _ _ w).drewN 1).trans U7.out)).set 3 _).set 6 _⟩
  · go_enter Try.func27, Try.ntmps27
    go_wp2
    go_region_held3 (fun w' => w'.cell? ⟨m, 0, none⟩ = some (.pointer (some ⟨s, o, none⟩)) ∧ w'.cell? ⟨m, 2, none⟩ = some (.int .i64 (pl : Int)) ∧ w'.cell? ⟨m, 4, none⟩ = some (.int .i64 tp) ∧ w'.cell? ⟨m, 5, none⟩ = some (.int .u64 (tg : Int))) (first | go_keep | exact ⟨c0, c2, c4, c5⟩) (first | (go_at_call 23; (first | (with_reducible refine (HP.out _ H.out).mono ?_) | (refine (HP.out _ (show SK w.drew s o _ from H.out)).mono ?_)); rintro e w7 ⟨rfl, h7, u7⟩; have k7 := (show MK w.drew m s o _ from K.out).wrt u7 (fun i h => hne h.1); have c0 := k7.c0; have c2 := k7.c2; have c4 := k7.c4; have c5 := k7.c5; have H7 := Lib.hid h7; have U7 := Lib.hid u7; have K7 := Lib.hid k7; have d3 := k7.c3; have d6 := k7.c6; have f3 := Blk.frozen k7 3; have f6 := Blk.frozen k7 6; simp only at c2 c4 c5 d3 d6; clear h7 u7 k7))
    go_wp2
    refine bodyPost_end (results_none rfl _ _ _) rfl ?_
    exact ⟨rfl, (H7.out.set hne 3 _).set hne 6 _, (K7.out.put 3 (.bool false) ⟨bp, pl, false, tp, tg, ov⟩ rfl).put 6 (.bool ovr) ⟨bp, pl, false, tp, tg, ovr⟩ rfl, ((StW.of (((Wrt.refl _ _ w).drewN 1).trans U7.out)).set 3 _).set 6 _⟩
theorem take_step (w : World) {m s o : Nat} {S : SS} {M : MV} (h : SK w s o S) (g : GoodS S) (gm : GoodM S M) (hl : M.looked = true) (hpu : M.push = false) (hov : M.over = false) (hm : ManyB S) (k : MK w m s o M) (hne : m ≠ s) :
    Calls Try.prog 28 #[.pointer (some ⟨m, 0, none⟩)] w fun e w' => e = .returned (.tuple #[]) ∧ SK w' s o (takeE S M).1 ∧ MK w' m s o (takeE S M).2 ∧ StW m s o w w' := by
  have hpos := gm.po hl hpu hov
  have hlo := gm.lo
  have htg := gm.tg
  have hat := gm.att hl
  obtain ⟨bp, pl, lo, tp, tg, ov⟩ := M
  have c0 := k.c0; have c4 := k.c4; have c5 := k.c5
  simp only at c4 c5 hpos hlo htg hat
  obtain ⟨q, rfl⟩ := Int.eq_ofNat_of_zero_le hpos
  obtain ⟨b, hb⟩ : ∃ b, decide (tg = S.t) = b := ⟨_, rfl⟩
  have hP : ∀ w' : World, SK w' s o S → Calls Try.prog 24 #[.pointer (some ⟨s, o, none⟩), .int .i64 (q : Int), .int .u64 (tg : Int)] w' fun e w2 => e = .returned (.tuple #[.bool b, .int .i64 0]) ∧ SK w2 s o (takeS S tg) ∧ Wrt (fun _ => False) (SPl s o) w' w2 := fun w' h' => by
    rw [← hb]
    exact take_any w' h' g hm (by omega) htg (fun e => (hat e).symm)
  have hE : takeE S ⟨bp, pl, lo, (q : Int), tg, ov⟩ = (takeS S tg, ⟨bp, pl, false, (q : Int), tg, b⟩) := by
    rw [← hb]
    unfold takeE takeS
    by_cases ht : tg = S.t <;> simp [ht]
  rw [hE]
  have HP := Lib.hid hP; have K := Lib.hid k; have H := Lib.hid h
  clear hE hP h g gm hm k hpos hlo htg hat hb hl hpu hov
  go_enter Try.func28, Try.ntmps28
  go_wp2
  go_region_held3 (fun w' => w'.cell? ⟨m, 0, none⟩ = some (.pointer (some ⟨s, o, none⟩)) ∧ w'.cell? ⟨m, 4, none⟩ = some (.int .i64 (q : Int)) ∧ w'.cell? ⟨m, 5, none⟩ = some (.int .u64 (tg : Int))) (first | go_keep | exact ⟨c0, c4, c5⟩ | exact ⟨(K7.out.put 6 (.bool b) ⟨bp, pl, lo, (q : Int), tg, b⟩ rfl).c0, (K7.out.put 6 (.bool b) ⟨bp, pl, lo, (q : Int), tg, b⟩ rfl).c4, (K7.out.put 6 (.bool b) ⟨bp, pl, lo, (q : Int), tg, b⟩ rfl).c5⟩) (first | (go_at_call 24; (first | (with_reducible refine (HP.out _ H.out).mono ?_) | (refine (HP.out _ (show SK w.drew s o _ from H.out)).mono ?_)); rintro e w7 ⟨rfl, h7, u7⟩; have k7 := (show MK w.drew m s o _ from K.out).wrt u7 (fun i h => hne h.1); have c0 := k7.c0; have c4 := k7.c4; have c5 := k7.c5; have H7 := Lib.hid h7; have U7 := Lib.hid u7; have K7 := Lib.hid k7; have d3 := k7.c3; have d6 := k7.c6; have f3 := Blk.frozen k7 3; have f6 := Blk.frozen k7 6; simp only at c4 c5 d3 d6; clear h7 u7 k7))
  go_wp2
  refine bodyPost_end (results_none rfl _ _ _) rfl ?_
  exact ⟨rfl, (H7.out.set hne 6 _).set hne 3 _, (K7.out.put 6 (.bool b) ⟨bp, pl, lo, (q : Int), tg, b⟩ rfl).put 3 (.bool false) ⟨bp, pl, false, (q : Int), tg, b⟩ rfl, ((StW.of (((Wrt.refl _ _ w).drewN 1).trans U7.out)).set 6 _).set 3 _⟩
theorem step_any (w : World) {m s o : Nat} {S : SS} {M : MV} (h : SK w s o S) (g : GoodS S) (gm : GoodM S M) (hm : ManyB S) (k : MK w m s o M) (hne : m ≠ s) :
    Calls Try.prog 13 #[.pointer (some ⟨m, 0, none⟩)] w fun e w' => e = .returned (.bool (!M.over)) ∧ SK w' s o (stepE S M).1 ∧ MK w' m s o (stepE S M).2 ∧ StW m s o w w' := by
  have D := Lib.hid (done_any w k)
  have c3 := k.c3; have c1 := k.c1
  by_cases ho : M.over = true
  · rw [ho] at D ⊢
    have hE : stepE S M = (S, M) := by unfold stepE; rw [if_pos ho]
    rw [hE]
    have R := Lib.hid (And.intro h k)
    clear h g gm hm k c3 c1 ho hE
    go_enter Try.func13, Try.ntmps13
    go_wp2_with fail
    refine D.out.mono ?_; rintro e w1 ⟨rfl, k⟩; obtain rfl := k.symm; clear k
    go_wp2
    go_ret
    exact ⟨rfl, R.out.1, R.out.2, Wrt.refl _ _ _⟩
  · have ho' : M.over = false := by simpa using ho
    rw [ho'] at D ⊢
    by_cases hl : M.looked = false
    · rw [hl] at c3
      have hE : stepE S M = lookE S M := by unfold stepE; rw [if_neg ho, if_pos hl]
      rw [hE]
      have L := Lib.hid (look_step w h g hm k hne)
      clear h g gm hm k c1 ho ho' hE hl
      go_enter Try.func13, Try.ntmps13
      go_wp2_with fail
      refine D.out.mono ?_; rintro e w1 ⟨rfl, k⟩; obtain rfl := k.symm; clear k
      go_wp2_with fail
      refine L.out.mono ?_; rintro e w2 ⟨rfl, h1, h2, h3⟩
      have R := Lib.hid (And.intro h1 (And.intro h2 h3))
      clear h1 h2 h3
      go_wp2
      go_ret
      exact ⟨rfl, R.out.1, R.out.2.1, R.out.2.2⟩
    · have hl' : M.looked = true := by simpa using hl
      rw [hl'] at c3
      by_cases hp : M.push = true
      · rw [hp] at c1
        have hE : stepE S M = putE S M := by unfold stepE; rw [if_neg ho, if_neg hl, if_pos hp]
        rw [hE]
        have L := Lib.hid (put_step w h g gm hm k hne)
        clear h g gm hm k ho ho' hE hl hl' hp
        go_enter Try.func13, Try.ntmps13
        go_wp2_with fail
        refine D.out.mono ?_; rintro e w1 ⟨rfl, k⟩; obtain rfl := k.symm; clear k
        go_wp2_with fail
        refine L.out.mono ?_; rintro e w2 ⟨rfl, h1, h2, h3⟩
        have R := Lib.hid (And.intro h1 (And.intro h2 h3))
        clear h1 h2 h3
        go_wp2
        go_ret
        exact ⟨rfl, R.out.1, R.out.2.1, R.out.2.2⟩
      · have hp' : M.push = false := by simpa using hp
        rw [hp'] at c1
        have hE : stepE S M = takeE S M := by unfold stepE; rw [if_neg ho, if_neg hl, if_neg hp]
        rw [hE]
        have L := Lib.hid (take_step w h g gm hl' hp' ho' hm k hne)
        clear h g gm hm k ho ho' hE hl hl' hp hp'
        go_enter Try.func13, Try.ntmps13
        go_wp2_with fail
        refine D.out.mono ?_; rintro e w1 ⟨rfl, k⟩; obtain rfl := k.symm; clear k
        go_wp2_with fail
        refine L.out.mono ?_; rintro e w2 ⟨rfl, h1, h2, h3⟩
        have R := Lib.hid (And.intro h1 (And.intro h2 h3))
        clear h1 h2 h3
        go_wp2
        go_ret
        exact ⟨rfl, R.out.1, R.out.2.1, R.out.2.2⟩
end Go.Proofs.Ytgaecgijmnkdgaa
