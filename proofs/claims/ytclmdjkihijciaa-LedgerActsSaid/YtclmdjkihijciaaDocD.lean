/- The document's ledger: Bytes, Hold, Let. -/
import Derived.Test.YtclmdjkihijciaaDocC
namespace Go.Proofs.Ytclmdjkihijciaa
open Go.RowKit LedMath
set_option linter.unusedVariables false

set_option maxHeartbeats 2000000 in
theorem doc_Bytes (w : World) {mb : Nat} {T : Nat → Prop} {M : List En} (h : DL w mb T M) : Calls Try.prog 10 #[ptrV mb 0] w fun r w' => r = .returned (.int .u64 ((sumN M : Nat) : Int)) ∧ Below w.heap.size w w' := by
  have I0 := Lib.hid (show ByR w M (.int .u64 0) (.int .i64 0) w from ⟨0, Nat.zero_le _, rfl, rfl, Below.refl _ _⟩)
  obtain ⟨a1, c1, a2, c2, m0, m1, s1, s2⟩ := h.open
  have S1 := Lib.hid s1
  have G := Lib.hid h.good
  obtain ⟨n, hN⟩ : ∃ n, M.length = n := ⟨_, rfl⟩
  have HN := Lib.hid hN
  rw [hN] at m0 m1 S1
  have hnb : n ≤ 1048576 := by rw [← hN]; exact h.good.len
  clear h s1 s2 hN
  go_enter Try.func10, Try.ntmps10
  go_wp2
  go_loopw [3, 11] (fun v i wr => ByR w M v i wr) (fun _ i _ => n - (intOf i).toNat)
  case atStart => exact I0.out
  case round =>
    clear I0
    obtain ⟨j, hj, rfl, rfl, hb⟩ := hrel
    rw [HN.out] at hj
    by_cases hjn : j < n
    · have t2 : decide (j < n) = true := decide_eq_true hjn
      have t2' : decide ((j : Int) < (n : Int)) = true := decide_eq_true (by omega)
      obtain ⟨e, he⟩ : ∃ e, M[j]? = some e := ⟨_, List.getElem?_eq_getElem (by rw [HN.out]; exact hjn)⟩
      obtain ⟨b, off, ea, k0, k1, k2⟩ := (S1.out wr hb).blk (i := j) (x := e.b) (by rw [List.getElem?_map, he]; rfl)
      subst ea
      have q3 : (0 : Int) ≤ (j : Int) := by omega
      have q4 : (j : Int) < (n : Int) := by omega
      have hs := sumN_next he
      have hl := Nat.le_trans (sumN_take M (j + 1)) (sumN_le G.out)
      obtain ⟨x, hx⟩ : ∃ x, sumN (M.take j) = x := ⟨_, rfl⟩
      obtain ⟨y, hy⟩ : ∃ y, e.b.2.1 = y := ⟨_, rfl⟩
      rw [hx, show e.n = y from hy] at hs
      rw [hx]
      rw [hy] at k1
      rw [hs] at hl
      have SX := Lib.hid hs
      have w1 : IntKind.u64.wrap ((x : Int) + (y : Int)) = (x : Int) + (y : Int) := u64_in _ ⟨by omega, by omega⟩
      have B := Lib.hid hb
      clear hb he hs hl hx hy
      go_wp2_with fail
      go_roundw
      case rel => exact ⟨j + 1, by rw [HN.out]; omega, by go_num, by rw [SX.out, Int.natCast_add], B.out.alloc B.out.size _⟩
      case measure => simp [intOf] <;> omega
    · obtain rfl : j = n := by omega
      have t2 : decide (j < j) = false := decide_eq_false hjn
      have t2' : decide ((j : Int) < (j : Int)) = false := decide_eq_false (by omega)
      have E := Lib.hid (show M.take j = M from List.take_of_length_le (by rw [HN.out]; exact Nat.le_refl _))
      have B := Lib.hid hb
      clear hb hjn
      go_wp2_with fail
      go_ret
      exact ⟨by rw [E.out]; rfl, B.out⟩
/-! ### Hold, Let -/
theorem all_bools (l : List Bool) : Elem.bools.all l = l.map (fun b : Bool => Value.bool b) := by
  induction l with
  | nil => rfl
  | cons x t ih => rw [Elem.all_cons, ih]; rfl
theorem vec_flag {w : World} {g off n cap : Nat} {l : List Bool} (h : Vec Elem.bools w (.slice (some ⟨g, off, none⟩) n cap) l) {t : Nat} (ht : t < l.length) (z : Bool) : Vec Elem.bools (w.setCell ⟨g, off + t, none⟩ (.bool z)) (.slice (some ⟨g, off, none⟩) n cap) (l.set t z) ∧ w.frozen? ⟨g, off + t, none⟩ = false := by
  rcases h with ⟨e, _⟩ | ⟨g', off', cap', e, hg, hn, hm, hc, hsp⟩
  · cases e
  · injection e with e1 e2 e3
    injection e1 with e1
    injection e1 with eg eo _
    subst eg eo e2 e3
    have hs := hsp t (by simp only [Elem.bools]; omega)
    have far : ∀ j, ¬ t = j → (w.setCell ⟨g, off + t, none⟩ (.bool z)).cell? ⟨g, off + j, none⟩ = w.cell? ⟨g, off + j, none⟩ := fun j e => World.cell?_setCell_other _ _ _ _ (fun h => e (by injection h with _ h _; omega))
    refine ⟨.inr ⟨g, off, cap, by rw [List.length_set], by rw [World.size_setCell]; exact hg, by rw [List.length_set]; exact hn, hm, fun j u hj => ?_, fun j hj => ?_⟩, hs.2⟩
    · rw [all_bools, List.getElem?_map, List.getElem?_set] at hj
      by_cases e : t = j
      · subst e
        rw [if_pos rfl, if_pos ht] at hj
        rw [← Option.some.inj hj]
        exact World.cell?_setCell_same' _ _ _ hs.1
      · rw [if_neg e] at hj
        rw [far j e]
        exact hc j u (by rw [all_bools, List.getElem?_map]; exact hj)
    · refine ⟨?_, by rw [World.frozen?_setCell]; exact (hsp j hj).2⟩
      by_cases e : t = j
      · subst e
        rw [World.cell?_setCell_same' _ _ _ hs.1]; rfl
      · rw [far j e]
        exact (hsp j hj).1
theorem DL.setH {w : World} {mb i : Nat} {T : Nat → Prop} {M : List En} {e : En} (h : DL w mb T M) (he : M[i]? = some e) (f : Bool) : ∃ b off c, w.cell? ⟨mb, 1, none⟩ = some (.slice (some ⟨b, off, none⟩) M.length c) ∧ w.cell? ⟨b, off + i, none⟩ = some (.bool e.h) ∧ w.frozen? ⟨b, off + i, none⟩ = false ∧
    DL (w.setCell ⟨b, off + i, none⟩ (.bool f)) mb T (setE M e.a f) ∧ Upd T w (w.setCell ⟨b, off + i, none⟩ (.bool f)) := by
  obtain ⟨v1, v2, hb, h1, h2, i1, i2⟩ := h.p
  obtain ⟨a2, c2, e2, _⟩ := h2.slice'
  rw [List.length_map] at e2
  subst e2
  obtain ⟨b, off, ea, k0⟩ := h2.seq.flag (i := i) (x := e.h) (by rw [List.getElem?_map, he]; rfl)
  subst ea
  have hi := (List.getElem?_eq_some_iff.1 he).1
  obtain ⟨g1, g2⟩ := vec_flag h2 (t := i) (by rw [List.length_map]; exact hi) f
  obtain ⟨x1, x2, x3⟩ := i2 b rfl
  have u : Upd (fun k => k = b) w (w.setCell ⟨b, off + i, none⟩ (.bool f)) := (Upd.refl (fun k => k = b) w).setCell (p := ⟨b, off + i, none⟩) (.inl rfl) _
  have sr := set_rise h.good.rise f he
  have m1 : (setE M e.a f).map En.b = M.map En.b := by
    unfold setE
    rw [List.map_map]
    exact List.map_congr_left fun y hy => by
      show En.b (if y.a = e.a then putH f y else y) = En.b y
      by_cases hh : y.a = e.a
      · rw [if_pos hh]; rfl
      · rw [if_neg hh]
  have m2 : (setE M e.a f).map En.h = (M.map En.h).set i f := by rw [sr, List.map_set]; rfl
  have ml : (setE M e.a f).length = M.length := by rw [sr, List.length_set]
  refine ⟨b, off, c2, hb.cell 1, k0, g2, ⟨h.good.set e.a f, h.tm, v1, _, hb.upd u (fun hh => x2 hh.symm), ?_, by rw [m2]; exact g1, i1, i2⟩, u.mono fun k hk => by subst hk; exact x1⟩
  rw [m1]
  exact h1.upd u fun k hk hh => by subst hh; exact x3 hk
set_option maxHeartbeats 2000000 in
theorem doc_Hold (w : World) {mb x : Nat} {T : Nat → Prop} {M : List En} (h : DL w mb T M) : Calls Try.prog 17 #[ptrV mb 0, .int .u64 (x : Int)] w fun r w' => r = .returned (.int .i64 ((hold1 M x).1 : Int)) ∧ DL w' mb T (hold1 M x).2 ∧ Upd T w w' := by
  have H1 := Lib.hid (doc_at w (x := x) h)
  have H := Lib.hid h
  clear h
  go_enter Try.func17, Try.ntmps17
  go_wp2_with fail
  refine H1.out.mono ?_
  rintro r w1 ⟨hb, hr⟩
  have D1 := Lib.hid (H.out.below hb)
  have U1 := Lib.hid ((updFalse_of hb).mono (T := T) fun _ h => h.elim)
  clear hb
  rcases hr with ⟨rfl, hn⟩ | ⟨i, e, rfl, hi, he⟩
  · have E := Lib.hid (show hold1 M x = (5, M) by unfold hold1; rw [hn])
    clear hn
    go_wp2_with fail
    go_ret
    exact ⟨by rw [E.out]; rfl, by rw [E.out]; exact D1.out, U1.out⟩
  · have ex : e.a = x := (atL_some he).2
    obtain ⟨b, off, c, k0, k1, k2, k3, k4⟩ := D1.out.setH hi true
    have hl := (List.getElem?_eq_some_iff.1 hi).1
    obtain ⟨n, hN⟩ : ∃ n, M.length = n := ⟨_, rfl⟩
    rw [hN] at k0 hl
    have hnb : n ≤ 1048576 := by rw [← hN]; exact D1.out.good.len
    have q1 : (0 : Int) ≤ (i : Int) := by omega
    have q2 : (i : Int) < (n : Int) := by omega
    have q3 : decide ((i : Int) < 0) = false := decide_eq_false (by omega)
    have K3 := Lib.hid k3; have K4 := Lib.hid k4
    have HE := Lib.hid he; have EX := Lib.hid ex
    obtain ⟨f, hf⟩ : ∃ f, e.h = f := ⟨_, rfl⟩
    have HF := Lib.hid hf
    rw [hf] at k1
    clear k3 k4 he ex hN hf hi hl
    cases f
    · have E := Lib.hid (show hold1 M x = (0, setE M x true) by unfold hold1; rw [HE.out]; simp [HF.out])
      go_wp2_with fail
      go_ret
      exact ⟨by rw [E.out]; rfl, by rw [E.out, ← EX.out]; exact K3.out, U1.out.step K4.out fun k hk => .inl hk⟩
    · have E := Lib.hid (show hold1 M x = (7, M) by unfold hold1; rw [HE.out]; simp [HF.out])
      go_wp2_with fail
      go_ret
      exact ⟨by rw [E.out]; rfl, by rw [E.out]; exact D1.out, U1.out⟩
set_option maxHeartbeats 2000000 in
theorem doc_Let (w : World) {mb x : Nat} {T : Nat → Prop} {M : List En} (h : DL w mb T M) : Calls Try.prog 19 #[ptrV mb 0, .int .u64 (x : Int)] w fun r w' => r = .returned (.int .i64 ((let1 M x).1 : Int)) ∧ DL w' mb T (let1 M x).2 ∧ Upd T w w' := by
  have H1 := Lib.hid (doc_at w (x := x) h)
  have H := Lib.hid h
  clear h
  go_enter Try.func19, Try.ntmps19
  go_wp2_with fail
  refine H1.out.mono ?_
  rintro r w1 ⟨hb, hr⟩
  have D1 := Lib.hid (H.out.below hb)
  have U1 := Lib.hid ((updFalse_of hb).mono (T := T) fun _ h => h.elim)
  clear hb
  rcases hr with ⟨rfl, hn⟩ | ⟨i, e, rfl, hi, he⟩
  · have E := Lib.hid (show let1 M x = (5, M) by unfold let1; rw [hn])
    clear hn
    go_wp2_with fail
    go_ret
    exact ⟨by rw [E.out]; rfl, by rw [E.out]; exact D1.out, U1.out⟩
  · have ex : e.a = x := (atL_some he).2
    obtain ⟨b, off, c, k0, k1, k2, k3, k4⟩ := D1.out.setH hi false
    have hl := (List.getElem?_eq_some_iff.1 hi).1
    obtain ⟨n, hN⟩ : ∃ n, M.length = n := ⟨_, rfl⟩
    rw [hN] at k0 hl
    have hnb : n ≤ 1048576 := by rw [← hN]; exact D1.out.good.len
    have q1 : (0 : Int) ≤ (i : Int) := by omega
    have q2 : (i : Int) < (n : Int) := by omega
    have q3 : decide ((i : Int) < 0) = false := decide_eq_false (by omega)
    have K3 := Lib.hid k3; have K4 := Lib.hid k4
    have HE := Lib.hid he; have EX := Lib.hid ex
    obtain ⟨f, hf⟩ : ∃ f, e.h = f := ⟨_, rfl⟩
    have HF := Lib.hid hf
    rw [hf] at k1
    clear k3 k4 he ex hN hf hi hl
    cases f
    · have E := Lib.hid (show let1 M x = (8, M) by unfold let1; rw [HE.out]; simp [HF.out])
      go_wp2_with fail
      go_ret
      exact ⟨by rw [E.out]; rfl, by rw [E.out]; exact D1.out, U1.out⟩
    · have E := Lib.hid (show let1 M x = (0, setE M x false) by unfold let1; rw [HE.out]; simp [HF.out])
      go_wp2_with fail
      go_ret
      exact ⟨by rw [E.out]; rfl, by rw [E.out, ← EX.out]; exact K3.out, U1.out.step K4.out fun k hk => .inl hk⟩
end Go.Proofs.Ytclmdjkihijciaa
