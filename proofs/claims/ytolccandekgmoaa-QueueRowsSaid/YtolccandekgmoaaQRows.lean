/- The landed rows' push, remove, fill, wake: contracts. -/
import Derived.Test.YtolccandekgmoaaQOps
namespace Go.Proofs.Ytolccandekgmoaa
open Go.RowKit Go.Maps QueueMath
set_option linter.unusedVariables false

theorem rows_lit {cs : Array Value} {a b c d e : Value} (hs : cs.size = 5) (h0 : cs[0]? = some a) (h1 : cs[1]? = some b) (h2 : cs[2]? = some c) (h3 : cs[3]? = some d) (h4 : cs[4]? = some e) : cs = #[a, b, c, d, e] := by
  apply Array.ext
  · rw [hs]; rfl
  · intro i hi hj
    have h : cs[i]? = #[a, b, c, d, e][i]? := by
      match i, hi with
      | 0, _ => exact h0
      | 1, _ => exact h1
      | 2, _ => exact h2
      | 3, _ => exact h3
      | 4, _ => exact h4
      | n + 5, hi => omega
    rw [Array.getElem?_eq_getElem hi, Array.getElem?_eq_getElem hj] at h
    injection h
theorem now_ready {w : World} {rb : Nat} {t : TypeId} {l : List Sp} {r1 r2 f1 f2 m : Value} (h : RowNow w rb 0 t #[r1, r2, f1, f2, m] l) : Blk w rb t #[.pointer (fstP l none), .pointer (lstP l none), f1, f2, m] ∧ SegP w ⟨rb, 0, none⟩ none l none := by
  obtain ⟨cs, hb, hs, h0, h1, hc, hg⟩ := h
  rw [rows_lit hs h0 h1 (hc 2 (by decide) (by decide)) (hc 3 (by decide) (by decide)) (hc 4 (by decide) (by decide))] at hb
  exact ⟨hb, hg⟩
theorem now_full {w : World} {rb : Nat} {t : TypeId} {l : List Sp} {r1 r2 f1 f2 m : Value} (h : RowNow w rb 2 t #[r1, r2, f1, f2, m] l) : Blk w rb t #[r1, r2, .pointer (fstP l none), .pointer (lstP l none), m] ∧ SegP w ⟨rb, 2, none⟩ none l none := by
  obtain ⟨cs, hb, hs, h0, h1, hc, hg⟩ := h
  rw [rows_lit hs (hc 0 (by decide) (by decide)) (hc 1 (by decide) (by decide)) h0 h1 (hc 4 (by decide) (by decide))] at hb
  exact ⟨hb, hg⟩
theorem one_place {l : List Sp} (nn : (nums l).Nodup) {x : Int} {k k' : Nat} (h : (x, k) ∈ l) (h' : (x, k') ∈ l) : k = k' := by
  induction l with
  | nil => cases h
  | cons e t ih =>
    rw [nums, List.map_cons, List.nodup_cons] at nn
    rcases List.mem_cons.1 h with rfl | h3
    · rcases List.mem_cons.1 h' with e' | h'
      · injection e' with _ e'; exact e'.symm
      · exact absurd (List.mem_map.2 ⟨_, h', rfl⟩) nn.1
    · rcases List.mem_cons.1 h' with e' | h4
      · exact absurd (show e.1 ∈ nums t from List.mem_map.2 ⟨(x, k), h3, by rw [← e']⟩) nn.1
      · exact ih nn.2 h3 h4
/-- The blocks of both rows. -/
def Own (rb mb : Nat) (l : List Sp) (c : Nat) : Prop := c = rb ∨ c = mb ∨ ∃ e ∈ l, c = e.2
section
variable {w w' : World} {rb mb k : Nat} {x : Int} {R F a b : List Sp}
theorem RowsAt.made {w : World} {rb mb : Nat} {R F l : List Sp} {D : DataW Unit} (blk : Blk w rb 53 #[.pointer (fstP R none), .pointer (lstP R none), .pointer (fstP F none), .pointer (lstP F none), .map (some mb)])
    (sr : SegP w ⟨rb, 0, none⟩ none R none) (sf : SegP w ⟨rb, 2, none⟩ none F none) (hD : w.ownsMap Try.prog 3 spElem mb l.length D) (hA : AtMap D l) (hp : l.Perm (R ++ F)) (nd : (blks l).Nodup) (nn : (nums l).Nodup)
    (ne : ∀ e ∈ l, e.2 ≠ rb ∧ e.2 ≠ mb ∧ e.2 < w.heap.size) (nm : mb ≠ rb) (i64 : ∀ e ∈ l, I64 e.1) : RowsAt w rb mb R F :=
  ⟨blk, sr, sf, ⟨D, by rw [← hp.length_eq]; exact hD, hA.perm hp⟩, (hp.map _).nodup_iff.1 nd, (hp.map _).nodup_iff.1 nn, fun e he => ne e (hp.mem_iff.2 he), nm, fun e he => i64 e (hp.mem_iff.2 he)⟩
theorem RowsAt.len (h : RowsAt w rb mb R F) : (QR.all ⟨nums R, nums F⟩).length = (R ++ F).length := by rw [nums_all]; exact List.length_map _
theorem rows_push (h : RowsAt w rb mb R F) (hx : I64 x) (hn : x ∉ nums (R ++ F)) (hm : (R ++ F).length ≤ many) :
    Calls Try.prog 30 #[.pointer (some ⟨rb, 0, none⟩), .int .i64 x] w fun e w' => e = .returned (.int .i64 0) ∧ RowsAt w' rb mb (R ++ [(x, w.heap.size)]) F ∧ Upd (Own rb mb (R ++ F)) w w' := by
  obtain ⟨D, hD, hA⟩ := h.mp
  have hk : ∀ e ∈ R ++ F, e.2 ≠ w.heap.size := fun e he => by have := (h.ne e he).2.2; omega
  have hrk : rb ≠ w.heap.size := by have := h.blk.lt; omega
  have hmk : mb ≠ w.heap.size := by have := hD.lt; omega
  refine push_new1 hx ((find_rows h hx).mono fun e w' ⟨⟨s, h1, h2⟩, h3⟩ => ⟨?_, h3⟩) (h.blk.cell 4) hD hm rfl fun w2 hown hturn => ?_
  · rcases h2 with ⟨rfl, _⟩ | ⟨k, rfl, h4⟩
    · exact h1
    · exact absurd (List.mem_map.2 ⟨_, h4, rfl⟩) hn
  · have u1 := (Upd.refl (fun _ => False) w).alloc (.cells #[.int .i64 x, .pointer none, .pointer none, .pointer none] 60)
    have u2 := upd_turned hturn
    have bk : Blk w2 w.heap.size 60 #[.int .i64 x, .pointer none, .pointer none, .pointer none] := (Blk.new w _ _).upd u2 fun e => hmk e.symm
    have b2 := (h.blk.upd u1 id).upd u2 fun e => h.nm e.symm
    have s2 := (h.sr.upd u1 fun _ _ => id).upd u2 fun e he => (h.ne e (List.mem_append_left _ he)).2.1
    have nd := h.nd
    rw [blks, List.map_append, List.nodup_append] at nd
    refine (add_any (o := 0) b2 rfl rfl s2 bk nd.1 (fun e => hrk e.symm) fun e he => ⟨(h.ne e (List.mem_append_left _ he)).1, hk e (List.mem_append_left _ he)⟩).mono fun e w3 ⟨e1, e2, u3⟩ => ⟨e1, ?_, ?_⟩
    · obtain ⟨b3, s3⟩ := now_ready e2
      have hF : ∀ e ∈ F, ¬ (BlkOf rb R e.2 ∨ e.2 = w.heap.size) := fun e he hh => by
        rcases hh with (hh | ⟨f, hf, hh⟩) | hh
        · exact (h.ne e (List.mem_append_right _ he)).1 hh
        · exact nd.2.2 f.2 (List.mem_map.2 ⟨f, hf, rfl⟩) e.2 (List.mem_map.2 ⟨e, he, rfl⟩) hh.symm
        · exact hk e (List.mem_append_right _ he) hh
      have sF := ((h.sf.upd u1 fun _ _ => id).upd u2 fun e he => (h.ne e (List.mem_append_right _ he)).2.1).upd u3 hF
      have hM := ownsMap_upd hown u3 fun hh => by
        rcases hh with (hh | ⟨f, hf, hh⟩) | hh
        · exact h.nm hh
        · exact (h.ne f (List.mem_append_left _ hf)).2.1 hh.symm
        · exact hmk hh
      have hsz : w.heap.size + 1 ≤ w3.heap.size := by have := u2.size; have := u3.size; rw [World.size_alloc] at *; omega
      refine RowsAt.made (l := (x, w.heap.size) :: (R ++ F)) b3 s3 sF hM (hA.put hD.isMap hn) ?_ ?_ ?_ ?_ h.nm ?_
      · rw [List.append_assoc]; exact List.perm_middle.symm
      · exact List.nodup_cons.2 ⟨fun hh => by obtain ⟨e, he, h5⟩ := List.mem_map.1 hh; exact hk e he h5, h.nd⟩
      · exact List.nodup_cons.2 ⟨hn, h.nn⟩
      · intro e he
        rcases List.mem_cons.1 he with rfl | he
        · exact ⟨fun e => hrk e.symm, fun e => hmk e.symm, hsz⟩
        · exact ⟨(h.ne e he).1, (h.ne e he).2.1, by have := (h.ne e he).2.2; omega⟩
      · intro e he
        rcases List.mem_cons.1 he with rfl | he
        · exact hx
        · exact h.i64 e he
    · refine (((u1.mono fun _ x => x.elim).step u2 fun i hi => ?_).step u3 fun i hi => ?_)
      · exact .inl (.inr (.inl hi))
      · rcases hi with (hi | ⟨f, hf, hi⟩) | hi
        · exact .inl (.inl hi)
        · exact .inl (.inr (.inr ⟨f, List.mem_append_left _ hf, hi⟩))
        · exact .inr (by omega)
theorem rows_push_there (h : RowsAt w rb mb R F) (hx : I64 x) (hn : x ∈ nums (R ++ F)) :
    Calls Try.prog 30 #[.pointer (some ⟨rb, 0, none⟩), .int .i64 x] w fun e w' => e = .returned (.int .i64 6) ∧ w = w' := by
  obtain ⟨⟨x', k⟩, hk, rfl⟩ := List.mem_map.1 hn
  refine push_there1 (k := k) ((find_rows h hx).mono fun e w' ⟨⟨s, h1, h2⟩, h3⟩ => ⟨?_, h3⟩)
  rcases h2 with ⟨_, h2⟩ | ⟨k', rfl, h4⟩
  · exact absurd hn h2
  · rw [h1, one_place h.nn h4 hk]
theorem find_none (h : RowsAt w rb mb R F) (hx : I64 x) (hn : x ∉ nums (R ++ F)) : Calls Try.prog 33 #[.pointer (some ⟨rb, 0, none⟩), .int .i64 x] w fun e w' => e = .returned (.pointer none) ∧ w = w' :=
  (find_rows h hx).mono fun e w' ⟨⟨s, h1, h2⟩, h3⟩ => ⟨by
    rcases h2 with ⟨rfl, _⟩ | ⟨k, rfl, h4⟩
    · exact h1
    · exact absurd (List.mem_map.2 ⟨_, h4, rfl⟩) hn, h3⟩
theorem find_there (h : RowsAt w rb mb R F) (hx : I64 x) (hk : (x, k) ∈ R ++ F) : Calls Try.prog 33 #[.pointer (some ⟨rb, 0, none⟩), .int .i64 x] w fun e w' => e = .returned (.pointer (some ⟨k, 0, none⟩)) ∧ w = w' :=
  (find_rows h hx).mono fun e w' ⟨⟨s, h1, h2⟩, h3⟩ => ⟨by
    rcases h2 with ⟨_, h2⟩ | ⟨k', rfl, h4⟩
    · exact absurd (List.mem_map.2 ⟨_, hk, rfl⟩) h2
    · rw [h1, one_place h.nn h4 hk], h3⟩
theorem RowsAt.drew (h : RowsAt w rb mb R F) : RowsAt w.drew rb mb R F := h.upd ((Upd.refl (fun _ => False) w).drew) id id fun _ _ => id
/-- A spot of the ready row is cut. -/
theorem rows_cut_ready (h : RowsAt w rb mb (a ++ (x, k) :: b) F) :
    Calls Try.prog 34 #[.pointer (some ⟨rb, 0, none⟩), .pointer (some ⟨k, 0, none⟩)] w fun e w' => e = .returned (.tuple #[]) ∧
      Blk w' rb 53 #[.pointer (fstP (a ++ b) none), .pointer (lstP (a ++ b) none), .pointer (fstP F none), .pointer (lstP F none), .map (some mb)] ∧ SegP w' ⟨rb, 0, none⟩ none (a ++ b) none ∧ SegP w' ⟨rb, 2, none⟩ none F none ∧
      (∃ p n, Blk w' k 60 (spotC x ⟨rb, 0, none⟩ p n)) ∧ Upd (BlkOf rb (a ++ b)) w w' := by
  have nd := h.nd
  rw [blks, List.map_append, List.nodup_append] at nd
  refine (cut_any (o := 0) h.blk rfl rfl h.sr nd.1 fun e he => (h.ne e (List.mem_append_left _ he)).1).mono fun e w' ⟨e1, ⟨e2, e3⟩, u⟩ => ?_
  obtain ⟨b2, s2⟩ := now_ready e2
  refine ⟨e1, b2, s2, h.sf.upd u fun e he hh => ?_, e3, u⟩
  rcases hh with hh | ⟨f, hf, hh⟩
  · exact (h.ne e (List.mem_append_right _ he)).1 hh
  · refine nd.2.2 f.2 (List.mem_map.2 ⟨f, ?_, rfl⟩) e.2 (List.mem_map.2 ⟨e, he, rfl⟩) hh.symm
    rcases List.mem_append.1 hf with hf | hf <;> simp [hf]
/-- A spot of the full row is cut. -/
theorem rows_cut_full (h : RowsAt w rb mb R (a ++ (x, k) :: b)) :
    Calls Try.prog 34 #[.pointer (some ⟨rb, 2, none⟩), .pointer (some ⟨k, 0, none⟩)] w fun e w' => e = .returned (.tuple #[]) ∧
      Blk w' rb 53 #[.pointer (fstP R none), .pointer (lstP R none), .pointer (fstP (a ++ b) none), .pointer (lstP (a ++ b) none), .map (some mb)] ∧ SegP w' ⟨rb, 0, none⟩ none R none ∧ SegP w' ⟨rb, 2, none⟩ none (a ++ b) none ∧
      (∃ p n, Blk w' k 60 (spotC x ⟨rb, 2, none⟩ p n)) ∧ Upd (BlkOf rb (a ++ b)) w w' := by
  have nd := h.nd
  rw [blks, List.map_append, List.nodup_append] at nd
  refine (cut_any (o := 2) h.blk rfl rfl h.sf nd.2.1 fun e he => (h.ne e (List.mem_append_right _ he)).1).mono fun e w' ⟨e1, ⟨e2, e3⟩, u⟩ => ?_
  obtain ⟨b2, s2⟩ := now_full e2
  refine ⟨e1, b2, h.sr.upd u fun e he hh => ?_, s2, e3, u⟩
  rcases hh with hh | ⟨f, hf, hh⟩
  · exact (h.ne e (List.mem_append_left _ he)).1 hh
  · refine nd.2.2 e.2 (List.mem_map.2 ⟨e, he, rfl⟩) f.2 (List.mem_map.2 ⟨f, ?_, rfl⟩) hh
    rcases List.mem_append.1 hf with hf | hf <;> simp [hf]
theorem upd_own (u : Upd (BlkOf rb (a ++ b)) w w') {l : List Sp} (hl : ∀ e ∈ a ++ b, e ∈ l) : Upd (Own rb mb l) w w' := u.mono fun c hc => by
  rcases hc with hc | ⟨f, hf, hc⟩
  · exact .inl hc
  · exact .inr (.inr ⟨f, hl f hf, hc⟩)
/-- Behind a cut, and a delete in the map. -/
theorem rows_less {w1 w2 : World} {R' F' : List Sp} {n : Nat} {D : DataW Unit} (h : RowsAt w rb mb R F) (hp : (R ++ F).Perm ((x, k) :: (R' ++ F')))
    (b1 : Blk w1 rb 53 #[.pointer (fstP R' none), .pointer (lstP R' none), .pointer (fstP F' none), .pointer (lstP F' none), .map (some mb)]) (s1 : SegP w1 ⟨rb, 0, none⟩ none R' none) (s2 : SegP w1 ⟨rb, 2, none⟩ none F' none)
    (u1 : Upd (Own rb mb (R ++ F)) w w1) (hD : Maps.size D ≤ (R ++ F).length) (hA : AtMap D (R ++ F)) (hM : w2.ownsMap Try.prog 3 spElem mb n (D.del (.int .i64 x))) (hT : w1.mapTurned w2 mb) :
    RowsAt w2 rb mb R' F' ∧ Upd (Own rb mb (R ++ F)) w w2 := by
  have u2 := upd_turned hT
  have hin : ∀ e ∈ R' ++ F', e ∈ R ++ F := fun e he => hp.mem_iff.2 (List.mem_cons_of_mem _ he)
  have nn := (hp.map fun e => e.1).nodup_iff.1 h.nn
  have nd := (hp.map fun e => e.2).nodup_iff.1 h.nd
  rw [List.map_cons, List.nodup_cons] at nn nd
  have hA' := hA.perm hp
  refine ⟨RowsAt.made (l := R' ++ F') (b1.upd u2 fun e => h.nm e.symm) (s1.upd u2 fun e he => (h.ne e (hin e (List.mem_append_left _ he))).2.1) (s2.upd u2 fun e he => (h.ne e (hin e (List.mem_append_right _ he))).2.1) (ownsMap_tight hM ?_) (hA'.del nn.1) (List.Perm.refl _) nd.2 nn.2 (fun e he => ⟨(h.ne e (hin e he)).1, (h.ne e (hin e he)).2.1, ?_⟩) h.nm (fun e he => h.i64 e (hin e he)), u1.trans (u2.mono fun c hc => .inr (.inl hc))⟩
  · have := size_del (D := D) (kl := .int .i64 x) (z := nilD) (by rw [hA'.there (x, k) (List.mem_cons_self ..)]; intro e; simp only [DataW.lit.injEq, Lit.int.injEq, true_and] at e; omega)
    have h2 := hp.length_eq
    rw [List.length_cons] at h2
    omega
  · have := (h.ne e (hin e he)).2.2
    have := u1.size; have := u2.size; omega
theorem split_mem {l : List Sp} {e : Sp} (h : e ∈ l) : ∃ a b, l = a ++ e :: b := List.append_of_mem h
theorem RowsAt.size (h : RowsAt w rb mb R F) : ∃ D, w.ownsMap Try.prog 3 spElem mb (R ++ F).length D ∧ Maps.size D ≤ (R ++ F).length ∧ AtMap D (R ++ F) := by
  obtain ⟨D, hD, hA⟩ := h.mp
  exact ⟨D, hD, hD.size_le, hA⟩
theorem rows_remove_ready (h : RowsAt w rb mb (a ++ (x, k) :: b) F) (hx : I64 x) :
    Calls Try.prog 26 #[.pointer (some ⟨rb, 0, none⟩), .int .i64 x] w fun e w' => e = .returned (.int .i64 0) ∧ RowsAt w' rb mb (a ++ b) F ∧ Upd (Own rb mb (a ++ (x, k) :: b ++ F)) w w' := by
  obtain ⟨D, hD, hs, hA⟩ := h.size
  have bk := (segP_mid.1 h.sr).2.1
  have hp : (a ++ (x, k) :: b ++ F).Perm ((x, k) :: (a ++ b ++ F)) := by rw [List.append_assoc, List.cons_append, List.append_assoc a b F]; exact List.perm_middle
  refine remove_there1 (k := k) (o := 0) (D := D) hx (find_there h hx (by simp)) (bk.cell 1) (rows_cut_ready h) (fun w1 ⟨q1, q2, q3, q4, q5⟩ => ⟨q1.cell 4, ownsMap_upd hD q5 fun hh => ?_⟩) fun w1 w2 ⟨q1, q2, q3, q4, q5⟩ hM hT => rows_less h hp q1 q2 q3 (upd_own q5 fun e he => ?_) hs hA hM hT
  · rcases hh with hh | ⟨f, hf, hh⟩
    · exact h.nm hh
    · exact (h.ne f (by rcases List.mem_append.1 hf with hf | hf <;> simp [hf])).2.1 hh.symm
  · rcases List.mem_append.1 he with hf | hf <;> simp [hf]
theorem rows_remove_full (h : RowsAt w rb mb R (a ++ (x, k) :: b)) (hx : I64 x) :
    Calls Try.prog 26 #[.pointer (some ⟨rb, 0, none⟩), .int .i64 x] w fun e w' => e = .returned (.int .i64 0) ∧ RowsAt w' rb mb R (a ++ b) ∧ Upd (Own rb mb (R ++ (a ++ (x, k) :: b))) w w' := by
  obtain ⟨D, hD, hs, hA⟩ := h.size
  have bk := (segP_mid.1 h.sf).2.1
  have hp : (R ++ (a ++ (x, k) :: b)).Perm ((x, k) :: (R ++ (a ++ b))) := by rw [← List.append_assoc, ← List.append_assoc]; exact List.perm_middle
  refine remove_there1 (k := k) (o := 2) (D := D) hx (find_there h hx (by simp)) (bk.cell 1) (rows_cut_full h) (fun w1 ⟨q1, q2, q3, q4, q5⟩ => ⟨q1.cell 4, ownsMap_upd hD q5 fun hh => ?_⟩) fun w1 w2 ⟨q1, q2, q3, q4, q5⟩ hM hT => rows_less h hp q1 q2 q3 (upd_own q5 fun e he => ?_) hs hA hM hT
  · rcases hh with hh | ⟨f, hf, hh⟩
    · exact h.nm hh
    · exact (h.ne f (by rcases List.mem_append.1 hf with hf | hf <;> simp [hf])).2.1 hh.symm
  · rcases List.mem_append.1 he with hf | hf <;> simp [hf]
/-- Behind a cut and an add: no number came or went. -/
theorem rows_moved {w2 : World} {R' F' : List Sp} (h : RowsAt w rb mb R F) (hp : (R ++ F).Perm (R' ++ F'))
    (b1 : Blk w2 rb 53 #[.pointer (fstP R' none), .pointer (lstP R' none), .pointer (fstP F' none), .pointer (lstP F' none), .map (some mb)]) (s1 : SegP w2 ⟨rb, 0, none⟩ none R' none) (s2 : SegP w2 ⟨rb, 2, none⟩ none F' none)
    (u : Upd (BlkOf rb (R ++ F)) w w2) : RowsAt w2 rb mb R' F' ∧ Upd (Own rb mb (R ++ F)) w w2 := by
  obtain ⟨D, hD, hA⟩ := h.mp
  refine ⟨RowsAt.made (l := R ++ F) b1 s1 s2 (ownsMap_upd hD u fun hh => ?_) hA hp h.nd h.nn (fun e he => ⟨(h.ne e he).1, (h.ne e he).2.1, Nat.lt_of_lt_of_le (h.ne e he).2.2 u.size⟩) h.nm h.i64, u.mono fun c hc => ?_⟩
  · rcases hh with hh | ⟨f, hf, hh⟩
    · exact h.nm hh
    · exact (h.ne f hf).2.1 hh.symm
  · rcases hc with hc | hc
    · exact .inl hc
    · exact .inr (.inr hc)
theorem rows_fill (h : RowsAt w rb mb (a ++ (x, k) :: b) F) (hx : I64 x) :
    Calls Try.prog 28 #[.pointer (some ⟨rb, 0, none⟩), .int .i64 x] w fun e w' => e = .returned (.int .i64 0) ∧ RowsAt w' rb mb (a ++ b) (F ++ [(x, k)]) ∧ Upd (Own rb mb (a ++ (x, k) :: b ++ F)) w w' := by
  have bk := (segP_mid.1 h.sr).2.1
  have hp : (a ++ (x, k) :: b ++ F).Perm (a ++ b ++ (F ++ [(x, k)])) := by
    refine List.Perm.trans (l₂ := (x, k) :: (a ++ b ++ F)) ?_ ?_
    · rw [List.append_assoc, List.cons_append, List.append_assoc a b F]; exact List.perm_middle
    · rw [← List.append_assoc]; exact (List.perm_append_singleton _ _).symm
  have nd := (hp.map fun e => e.2).nodup_iff.1 h.nd
  have nd1 := nd
  rw [List.map_append, List.nodup_append] at nd1
  have nd2 := nd1.2.1
  rw [List.map_append, List.nodup_append] at nd2
  refine fill_there1 (k := k) (find_there h hx (by simp)) (bk.cell 1) (rows_cut_ready h.drew) fun w1 ⟨q1, q2, q3, ⟨p, n, q4⟩, q5⟩ => ?_
  refine (add_any (o := 2) q1 rfl rfl q3 q4 nd2.1 (h.ne (x, k) (by simp)).1 fun e he => ⟨(h.ne e (by simp [he])).1, fun hh => nd2.2.2 e.2 (List.mem_map.2 ⟨e, he, rfl⟩) k (by simp) hh⟩).mono fun e w2 ⟨e1, e2, u2⟩ => ⟨e1, ?_⟩
  obtain ⟨b2, s2⟩ := now_full e2
  refine rows_moved h hp b2 (q2.upd u2 fun e he hh => ?_) s2 ((((Upd.refl _ w).drew.trans (q5.mono fun c hc => ?_) : Upd (BlkOf rb (a ++ (x, k) :: b ++ F)) w w1).trans (u2.mono fun c hc => ?_)))
  · have he' : e.2 ∈ List.map (fun e : Sp => e.2) (a ++ b) := List.mem_map.2 ⟨e, he, rfl⟩
    rcases hh with (hh | ⟨f, hf, hh⟩) | hh
    · exact (h.ne e (by rcases List.mem_append.1 he with he | he <;> simp [he])).1 hh
    · exact nd1.2.2 e.2 he' f.2 (List.mem_map.2 ⟨f, List.mem_append_left _ hf, rfl⟩) hh
    · exact nd1.2.2 e.2 he' k (by simp) hh
  · rcases hc with hc | ⟨f, hf, hc⟩
    · exact .inl hc
    · exact .inr ⟨f, by rcases List.mem_append.1 hf with hf | hf <;> simp [hf], hc⟩
  · rcases hc with (hc | ⟨f, hf, hc⟩) | hc
    · exact .inl hc
    · exact .inr ⟨f, by simp [hf], hc⟩
    · exact .inr ⟨(x, k), by simp, hc⟩
theorem rows_wake (h : RowsAt w rb mb R (a ++ (x, k) :: b)) (hx : I64 x) :
    Calls Try.prog 29 #[.pointer (some ⟨rb, 0, none⟩), .int .i64 x] w fun e w' => e = .returned (.int .i64 0) ∧ RowsAt w' rb mb (R ++ [(x, k)]) (a ++ b) ∧ Upd (Own rb mb (R ++ (a ++ (x, k) :: b))) w w' := by
  have bk := (segP_mid.1 h.sf).2.1
  have hp : (R ++ (a ++ (x, k) :: b)).Perm (R ++ [(x, k)] ++ (a ++ b)) := by
    rw [List.append_assoc]
    exact List.Perm.append_left R List.perm_middle
  have nd := (hp.map fun e => e.2).nodup_iff.1 h.nd
  have nd1 := nd
  rw [List.map_append, List.nodup_append] at nd1
  have nd2 := nd1.1
  rw [List.map_append, List.nodup_append] at nd2
  refine wake_there1 (k := k) (find_there h hx (by simp)) (bk.cell 1) (rows_cut_full h.drew) fun w1 ⟨q1, q2, q3, ⟨p, n, q4⟩, q5⟩ => ?_
  refine (add_any (o := 0) q1 rfl rfl q2 q4 nd2.1 (h.ne (x, k) (by simp)).1 fun e he => ⟨(h.ne e (by simp [he])).1, fun hh => nd2.2.2 e.2 (List.mem_map.2 ⟨e, he, rfl⟩) k (by simp) hh⟩).mono fun e w2 ⟨e1, e2, u2⟩ => ⟨e1, ?_⟩
  obtain ⟨b2, s2⟩ := now_ready e2
  refine rows_moved h hp b2 s2 (q3.upd u2 fun e he hh => ?_) ((((Upd.refl _ w).drew.trans (q5.mono fun c hc => ?_) : Upd (BlkOf rb (R ++ (a ++ (x, k) :: b))) w w1).trans (u2.mono fun c hc => ?_)))
  · have he' : e.2 ∈ List.map (fun e : Sp => e.2) (a ++ b) := List.mem_map.2 ⟨e, he, rfl⟩
    rcases hh with (hh | ⟨f, hf, hh⟩) | hh
    · exact (h.ne e (by rcases List.mem_append.1 he with he | he <;> simp [he])).1 hh
    · exact nd1.2.2 f.2 (List.mem_map.2 ⟨f, List.mem_append_left _ hf, rfl⟩) e.2 he' hh.symm
    · exact nd1.2.2 k (by simp) e.2 he' hh.symm
  · rcases hc with hc | ⟨f, hf, hc⟩
    · exact .inl hc
    · exact .inr ⟨f, by rcases List.mem_append.1 hf with hf | hf <;> simp [hf], hc⟩
  · rcases hc with (hc | ⟨f, hf, hc⟩) | hc
    · exact .inl hc
    · exact .inr ⟨f, by simp [hf], hc⟩
    · exact .inr ⟨(x, k), by simp, hc⟩
end
section
variable {w : World} {rb : Nat} {O : Nat → Prop} {S : QR} {x : Int}
theorem own_of {rb mb : Nat} {l : List Sp} (h1 : O rb) (h2 : O mb) (h3 : ∀ e ∈ l, O e.2) : ∀ c, Own rb mb l c → O c := fun c hc => by
  rcases hc with rfl | rfl | ⟨e, he, rfl⟩
  · exact h1
  · exact h2
  · exact h3 e he
theorem out_mid {a b : List Sp} {k : Nat} (nn : (nums (a ++ (x, k) :: b)).Nodup) : QueueMath.out (nums (a ++ (x, k) :: b)) x = nums (a ++ b) := by
  have e : nums (a ++ (x, k) :: b) = nums a ++ x :: nums b := by simp [nums]
  rw [e] at nn ⊢
  rw [List.nodup_append, List.nodup_cons] at nn
  have h1 : QueueMath.out (nums a) x = nums a := out_self fun h => nn.2.2 x h x (List.mem_cons_self ..) rfl
  have h2 : QueueMath.out (nums b) x = nums b := out_self nn.2.1.1
  unfold QueueMath.out at *
  rw [List.filter_append, List.filter_cons_of_neg (by simp), h1, h2]
  simp [nums]
theorem nums_app (a b : List Sp) : nums (a ++ b) = nums a ++ nums b := List.map_append ..
theorem rn_find (h : RwsN w rb O S) (hx : I64 x) : Calls Try.prog 33 #[.pointer (some ⟨rb, 0, none⟩), .int .i64 x] w fun e w' => (∃ s, e = .returned (.pointer s) ∧ ((s = none ∧ x ∉ S.all) ∨ (∃ k, s = some ⟨k, 0, none⟩) ∧ x ∈ S.all)) ∧ w = w' := by
  obtain ⟨mb, R, F, h, rfl, h1, h2, h3⟩ := h
  refine (find_rows h hx).mono fun e w' ⟨⟨s, e1, e2⟩, e3⟩ => ⟨⟨s, e1, ?_⟩, e3⟩
  rw [nums_all]
  rcases e2 with ⟨e2, e4⟩ | ⟨k, e2, e4⟩
  · exact .inl ⟨e2, e4⟩
  · exact .inr ⟨⟨k, e2⟩, List.mem_map.2 ⟨_, e4, rfl⟩⟩
/-- What a call on both rows leaves. -/
def RnPost (w : World) (rb : Nat) (O : Nat → Prop) (S' : QR) (a : Int) (e : Ending) (w' : World) : Prop :=
  e = .returned (.int .i64 a) ∧ ∃ O', RwsN w' rb O' S' ∧ (∀ k, O k → O' k) ∧ (∀ k, O' k → O k ∨ (w.heap.size ≤ k ∧ k < w'.heap.size)) ∧ Upd O w w'
theorem RnPost.same {e : Ending} {w' : World} {S' : QR} {a : Int} (h1 : e = .returned (.int .i64 a)) (h2 : RwsN w' rb O S') (u : Upd O w w') : RnPost w rb O S' a e w' :=
  ⟨h1, O, h2, fun _ => id, fun _ => .inl, u⟩
theorem rn_push (hN : RwsN w rb O S) (hx : I64 x) (hm : S.all.length ≤ many) : Calls Try.prog 30 #[.pointer (some ⟨rb, 0, none⟩), .int .i64 x] w fun e w' => RnPost w rb O (pushE S [x]).1 (pushE S [x]).2 e w' := by
  obtain ⟨mb, R, F, h, rfl, h1, h2, h3⟩ := id hN
  by_cases hn : x ∈ QR.all ⟨nums R, nums F⟩
  · rw [push_there hn]
    rw [nums_all] at hn
    exact (rows_push_there h hx hn).mono fun e w' ⟨e1, e2⟩ => by subst e2; exact RnPost.same e1 hN (Upd.refl _ _)
  · rw [push_new hn]
    rw [nums_all] at hn
    rw [h.len] at hm
    refine (rows_push h hx hn hm).mono fun e w' ⟨e1, e2, u⟩ => ⟨e1, fun c => O c ∨ c = w.heap.size, ⟨mb, R ++ [(x, w.heap.size)], F, e2, ?_, .inl h1, .inl h2, fun e he => ?_⟩, fun k => .inl, fun k hk => ?_, u.mono (own_of h1 h2 h3)⟩
    · rw [nums_app]; rfl
    · rcases List.mem_append.1 he with he | he
      · rcases List.mem_append.1 he with he | he
        · exact .inl (h3 e (List.mem_append_left _ he))
        · rw [List.mem_singleton.1 he]; exact .inr rfl
      · exact .inl (h3 e (List.mem_append_right _ he))
    · refine hk.imp id fun hk => ⟨by omega, ?_⟩
      have := (e2.ne (x, w.heap.size) (by simp)).2.2
      rw [hk]; exact this
theorem rn_remove (hN : RwsN w rb O S) (hx : I64 x) : Calls Try.prog 26 #[.pointer (some ⟨rb, 0, none⟩), .int .i64 x] w fun e w' => RnPost w rb O (removeE S [x]).1 (removeE S [x]).2 e w' := by
  obtain ⟨mb, R, F, h, rfl, h1, h2, h3⟩ := id hN
  by_cases hn : x ∈ QR.all ⟨nums R, nums F⟩
  · rw [remove_there hn]
    rw [nums_all] at hn
    obtain ⟨⟨x', k⟩, hk, rfl⟩ := List.mem_map.1 hn
    have nn := h.nn
    rw [nums, List.map_append, List.nodup_append] at nn
    rcases List.mem_append.1 hk with hk | hk
    · obtain ⟨a, b, rfl⟩ := split_mem hk
      refine (rows_remove_ready h hx).mono fun e w' ⟨e1, e2, u⟩ => RnPost.same e1 ⟨mb, a ++ b, F, e2, ?_, h1, h2, fun e he => h3 e ?_⟩ (u.mono (own_of h1 h2 h3))
      · rw [out_mid nn.1, out_self fun hh => nn.2.2 x' (List.mem_map.2 ⟨_, hk, rfl⟩) x' hh rfl]
      · rcases List.mem_append.1 he with he | he
        · rcases List.mem_append.1 he with he | he <;> simp [he]
        · simp [he]
    · obtain ⟨a, b, rfl⟩ := split_mem hk
      refine (rows_remove_full h hx).mono fun e w' ⟨e1, e2, u⟩ => RnPost.same e1 ⟨mb, R, a ++ b, e2, ?_, h1, h2, fun e he => h3 e ?_⟩ (u.mono (own_of h1 h2 h3))
      · rw [out_mid nn.2.1, out_self fun hh => nn.2.2 x' hh x' (List.mem_map.2 ⟨_, hk, rfl⟩) rfl]
      · rcases List.mem_append.1 he with he | he
        · simp [he]
        · rcases List.mem_append.1 he with he | he <;> simp [he]
  · rw [remove_none hn]
    rw [nums_all] at hn
    exact (remove_none1 (find_none h hx hn)).mono fun e w' ⟨e1, e2⟩ => by subst e2; exact RnPost.same e1 hN (Upd.refl _ _)
theorem rn_fill (hN : RwsN w rb O S) (hx : I64 x) : Calls Try.prog 28 #[.pointer (some ⟨rb, 0, none⟩), .int .i64 x] w fun e w' => RnPost w rb O (fillE S x).1 (fillE S x).2 e w' := by
  obtain ⟨mb, R, F, h, rfl, h1, h2, h3⟩ := id hN
  have nn := h.nn
  rw [nums, List.map_append, List.nodup_append] at nn
  by_cases hn : x ∈ nums R
  · rw [fill_yes hn]
    obtain ⟨⟨x', k⟩, hk, rfl⟩ := List.mem_map.1 hn
    obtain ⟨a, b, rfl⟩ := split_mem hk
    refine (rows_fill h hx).mono fun e w' ⟨e1, e2, u⟩ => RnPost.same e1 ⟨mb, a ++ b, F ++ [(x', k)], e2, ?_, h1, h2, fun e he => h3 e ?_⟩ (u.mono (own_of h1 h2 h3))
    · rw [out_mid nn.1, nums_app F]; rfl
    · rcases List.mem_append.1 he with he | he
      · rcases List.mem_append.1 he with he | he <;> simp [he]
      · rcases List.mem_append.1 he with he | he
        · simp [he]
        · rw [List.mem_singleton.1 he]; simp
  · rw [fill_no hn]
    by_cases hf : x ∈ nums F
    · obtain ⟨⟨x', k⟩, hk, rfl⟩ := List.mem_map.1 hf
      obtain ⟨p', n', bk⟩ := h.sf.at hk
      exact (fill_other1 (find_there h hx (List.mem_append_right _ hk)) (bk.cell 1) h.blk).mono fun e w' ⟨e1, u⟩ => RnPost.same e1 (RwsN.upd hN u fun _ x => x.elim) (u.mono fun _ x => x.elim)
    · exact (fill_none1 (find_none h hx (by rw [nums_app]; exact fun hh => (List.mem_append.1 hh).elim hn hf))).mono fun e w' ⟨e1, u⟩ => RnPost.same e1 (RwsN.upd hN u fun _ x => x.elim) (u.mono fun _ x => x.elim)
theorem rn_wake (hN : RwsN w rb O S) (hx : I64 x) : Calls Try.prog 29 #[.pointer (some ⟨rb, 0, none⟩), .int .i64 x] w fun e w' => RnPost w rb O (wakeE S x).1 (wakeE S x).2 e w' := by
  obtain ⟨mb, R, F, h, rfl, h1, h2, h3⟩ := id hN
  have nn := h.nn
  rw [nums, List.map_append, List.nodup_append] at nn
  by_cases hn : x ∈ nums F
  · rw [wake_yes hn]
    obtain ⟨⟨x', k⟩, hk, rfl⟩ := List.mem_map.1 hn
    obtain ⟨a, b, rfl⟩ := split_mem hk
    refine (rows_wake h hx).mono fun e w' ⟨e1, e2, u⟩ => RnPost.same e1 ⟨mb, R ++ [(x', k)], a ++ b, e2, ?_, h1, h2, fun e he => h3 e ?_⟩ (u.mono (own_of h1 h2 h3))
    · rw [out_mid nn.2.1, nums_app R]; rfl
    · rcases List.mem_append.1 he with he | he
      · rcases List.mem_append.1 he with he | he
        · simp [he]
        · rw [List.mem_singleton.1 he]; simp
      · rcases List.mem_append.1 he with he | he <;> simp [he]
  · rw [show wakeE ⟨nums R, nums F⟩ x = (⟨nums R, nums F⟩, 5) from if_neg hn]
    by_cases hf : x ∈ nums R
    · obtain ⟨⟨x', k⟩, hk, rfl⟩ := List.mem_map.1 hf
      obtain ⟨p', n', bk⟩ := h.sr.at hk
      exact (wake_other1 (find_there h hx (List.mem_append_left _ hk)) (bk.cell 1) h.blk).mono fun e w' ⟨e1, u⟩ => RnPost.same e1 (RwsN.upd hN u fun _ x => x.elim) (u.mono fun _ x => x.elim)
    · exact (wake_none1 (find_none h hx (by rw [nums_app]; exact fun hh => (List.mem_append.1 hh).elim hf hn))).mono fun e w' ⟨e1, u⟩ => RnPost.same e1 (RwsN.upd hN u fun _ x => x.elim) (u.mono fun _ x => x.elim)
end
end Go.Proofs.Ytolccandekgmoaa
