/- The landed queue: its exported calls. Written by genqland.py. -/
import Derived.Test.YtolccandekgmoaaQLandB
namespace Go.Proofs.Ytolccandekgmoaa
open Go.RowKit Go.Maps QueueMath
set_option linter.unusedVariables false
set_option maxRecDepth 100000

set_option maxHeartbeats 1000000 in
theorem qs_ready (w : World) {b : Nat} {O : Nat → Prop} {S : QR} (h : QuS w b O S) (hm : S.all.length ≤ many) :
    Calls Try.prog 21 #[.pointer (some ⟨b, 0, none⟩)] w fun e w' => ∃ v, e = .returned v ∧ (Arr w' v S.R ∧ Vec Elem.ints w' v S.R) ∧ (∀ k, In v k → w.heap.size ≤ k) ∧ Below w.heap.size w w' := by
  obtain ⟨p, Or, hb, hp, -, -, -, -, h5⟩ := h
  obtain ⟨rb, R, F, rfl, sR, sF, hc⟩ := ps_both hp
  have c0 : w.cell? ⟨b, 0, none⟩ = some (.pointer p) := hb.cell 0
  have K := Lib.hid hc
  obtain ⟨p0, e0⟩ : ∃ y, fstP R none = y := ⟨_, rfl⟩
  obtain ⟨p1, e1⟩ : ∃ y, lstP R none = y := ⟨_, rfl⟩
  obtain ⟨p2, e2⟩ : ∃ y, fstP F none = y := ⟨_, rfl⟩
  obtain ⟨p3, e3⟩ : ∃ y, lstP F none = y := ⟨_, rfl⟩
  have T : Hid (∀ w1 w2 g, g = w2.heap.size → Below w.heap.size w w1 → Below w1.heap.size w1 w2 → w1.heap.size ≤ w2.heap.size → Calls Try.prog 32 #[.slice (some ⟨g, 0, none⟩) 1 1] (w2.alloc (.cells #[.pointer p0, .pointer p1] 51)) fun e w' => ∃ v, e = .returned v ∧ (Arr w' v (nums R) ∧ Vec Elem.ints w' v (nums R)) ∧ (∀ k, In v k → w.heap.size ≤ k) ∧ Below w.heap.size w w') := Lib.hid fun w1 w2 g hg h1 h2 hs => by
    subst hg
    have bn := Blk.new w2 51 #[.pointer p0, .pointer p1]
    have b3 : Below w.heap.size w (w2.alloc (.cells #[.pointer p0, .pointer p1] 51)) := (below_then h1 h1.size h2).alloc (by have := h1.size; omega) _
    have hm' : (nums R).length ≤ many := by simp only [QR.all, List.length_append] at hm ⊢; omega
    have hsub : ∀ x ∈ nums R, x ∈ QR.all ⟨nums R, nums F⟩ := fun x hx => mem_all.2 (.inl hx)
    have hrd : Rd (w2.alloc (.cells #[.pointer p0, .pointer p1] 51)) w2.heap.size 0 [(⟨rb, 0, none⟩, R)] := fun i r hr => by
      match i, hr with
      | 0, hr =>
        injection hr with hr; subst hr
        exact ⟨by rw [bn.cell]; simp [e0], by rw [bn.cell]; simp [e1], sR.grew b3⟩
      | i + 1, hr => simp at hr
    refine (told_any _ hrd rfl (by simp) (Nat.le_trans (by simp [toldL]) hm')).mono fun e w' ⟨v, k1, k2, k3, k4⟩ => ⟨v, k1, ⟨?_, ?_⟩, fun k hk => ?_, below_then b3 b3.size k4⟩
    · have := k2.arr (fun x hx => h5 x (hsub x (by simpa [toldL] using hx)))
      simpa [toldL] using this
    · simpa [toldL] using k2
    · have := k3 k hk; have := b3.size; omega
  unfold rowV at K; rw [e0, e1, e2, e3] at K
  clear hb hp hc sR sF h5 e0 e1 e2 e3 hm
  show Calls _ _ _ _ fun e w' => ∃ v, e = .returned v ∧ (Arr w' v (nums R) ∧ Vec Elem.ints w' v (nums R)) ∧ (∀ k, In v k → w.heap.size ≤ k) ∧ Below w.heap.size w w'
  go_enter Try.func21, Try.ntmps21
  go_wp2_with fail
  refine K.out.mono ?_; rintro e w1 ⟨rfl, hb⟩
  have B := Lib.hid hb
  clear hb c0
  go_wp2_with fail
  refine (T.out w1 _ _ ?_ B.out ?_ ?_).mono ?_
  · simp [World.size_alloc]
  · exact ((Below.refl _ w1).alloc (Nat.le_refl _) _).alloc (by rw [World.size_alloc]; omega) _
  · simp only [World.size_alloc]; omega
  · rintro e w3 ⟨v, rfl, h⟩
    have H := Lib.hid h
    clear h
    go_wp2
    go_ret
    exact ⟨v, rfl, H.out⟩
set_option maxHeartbeats 1000000 in
theorem qs_full (w : World) {b : Nat} {O : Nat → Prop} {S : QR} (h : QuS w b O S) (hm : S.all.length ≤ many) :
    Calls Try.prog 22 #[.pointer (some ⟨b, 0, none⟩)] w fun e w' => ∃ v, e = .returned v ∧ (Arr w' v S.F ∧ Vec Elem.ints w' v S.F) ∧ (∀ k, In v k → w.heap.size ≤ k) ∧ Below w.heap.size w w' := by
  obtain ⟨p, Or, hb, hp, -, -, -, -, h5⟩ := h
  obtain ⟨rb, R, F, rfl, sR, sF, hc⟩ := ps_both hp
  have c0 : w.cell? ⟨b, 0, none⟩ = some (.pointer p) := hb.cell 0
  have K := Lib.hid hc
  obtain ⟨p0, e0⟩ : ∃ y, fstP R none = y := ⟨_, rfl⟩
  obtain ⟨p1, e1⟩ : ∃ y, lstP R none = y := ⟨_, rfl⟩
  obtain ⟨p2, e2⟩ : ∃ y, fstP F none = y := ⟨_, rfl⟩
  obtain ⟨p3, e3⟩ : ∃ y, lstP F none = y := ⟨_, rfl⟩
  have T : Hid (∀ w1 w2 g, g = w2.heap.size → Below w.heap.size w w1 → Below w1.heap.size w1 w2 → w1.heap.size ≤ w2.heap.size → Calls Try.prog 32 #[.slice (some ⟨g, 0, none⟩) 1 1] (w2.alloc (.cells #[.pointer p2, .pointer p3] 51)) fun e w' => ∃ v, e = .returned v ∧ (Arr w' v (nums F) ∧ Vec Elem.ints w' v (nums F)) ∧ (∀ k, In v k → w.heap.size ≤ k) ∧ Below w.heap.size w w') := Lib.hid fun w1 w2 g hg h1 h2 hs => by
    subst hg
    have bn := Blk.new w2 51 #[.pointer p2, .pointer p3]
    have b3 : Below w.heap.size w (w2.alloc (.cells #[.pointer p2, .pointer p3] 51)) := (below_then h1 h1.size h2).alloc (by have := h1.size; omega) _
    have hm' : (nums F).length ≤ many := by simp only [QR.all, List.length_append] at hm ⊢; omega
    have hsub : ∀ x ∈ nums F, x ∈ QR.all ⟨nums R, nums F⟩ := fun x hx => mem_all.2 (.inr hx)
    have hrd : Rd (w2.alloc (.cells #[.pointer p2, .pointer p3] 51)) w2.heap.size 0 [(⟨rb, 2, none⟩, F)] := fun i r hr => by
      match i, hr with
      | 0, hr =>
        injection hr with hr; subst hr
        exact ⟨by rw [bn.cell]; simp [e2], by rw [bn.cell]; simp [e3], sF.grew b3⟩
      | i + 1, hr => simp at hr
    refine (told_any _ hrd rfl (by simp) (Nat.le_trans (by simp [toldL]) hm')).mono fun e w' ⟨v, k1, k2, k3, k4⟩ => ⟨v, k1, ⟨?_, ?_⟩, fun k hk => ?_, below_then b3 b3.size k4⟩
    · have := k2.arr (fun x hx => h5 x (hsub x (by simpa [toldL] using hx)))
      simpa [toldL] using this
    · simpa [toldL] using k2
    · have := k3 k hk; have := b3.size; omega
  unfold rowV at K; rw [e0, e1, e2, e3] at K
  clear hb hp hc sR sF h5 e0 e1 e2 e3 hm
  show Calls _ _ _ _ fun e w' => ∃ v, e = .returned v ∧ (Arr w' v (nums F) ∧ Vec Elem.ints w' v (nums F)) ∧ (∀ k, In v k → w.heap.size ≤ k) ∧ Below w.heap.size w w'
  go_enter Try.func22, Try.ntmps22
  go_wp2_with fail
  refine K.out.mono ?_; rintro e w1 ⟨rfl, hb⟩
  have B := Lib.hid hb
  clear hb c0
  go_wp2_with fail
  refine (T.out w1 _ _ ?_ B.out ?_ ?_).mono ?_
  · simp [World.size_alloc]
  · exact ((Below.refl _ w1).alloc (Nat.le_refl _) _).alloc (by rw [World.size_alloc]; omega) _
  · simp only [World.size_alloc]; omega
  · rintro e w3 ⟨v, rfl, h⟩
    have H := Lib.hid h
    clear h
    go_wp2
    go_ret
    exact ⟨v, rfl, H.out⟩
set_option maxHeartbeats 1000000 in
theorem qs_all (w : World) {b : Nat} {O : Nat → Prop} {S : QR} (h : QuS w b O S) (hm : S.all.length ≤ many) :
    Calls Try.prog 24 #[.pointer (some ⟨b, 0, none⟩)] w fun e w' => ∃ v, e = .returned v ∧ (Arr w' v S.all ∧ Vec Elem.ints w' v S.all) ∧ (∀ k, In v k → w.heap.size ≤ k) ∧ Below w.heap.size w w' := by
  obtain ⟨p, Or, hb, hp, -, -, -, -, h5⟩ := h
  obtain ⟨rb, R, F, rfl, sR, sF, hc⟩ := ps_both hp
  have c0 : w.cell? ⟨b, 0, none⟩ = some (.pointer p) := hb.cell 0
  have K := Lib.hid hc
  obtain ⟨p0, e0⟩ : ∃ y, fstP R none = y := ⟨_, rfl⟩
  obtain ⟨p1, e1⟩ : ∃ y, lstP R none = y := ⟨_, rfl⟩
  obtain ⟨p2, e2⟩ : ∃ y, fstP F none = y := ⟨_, rfl⟩
  obtain ⟨p3, e3⟩ : ∃ y, lstP F none = y := ⟨_, rfl⟩
  have T : Hid (∀ w1 w2 g, g = w2.heap.size → Below w.heap.size w w1 → Below w1.heap.size w1 w2 → w1.heap.size ≤ w2.heap.size → Calls Try.prog 32 #[.slice (some ⟨g, 0, none⟩) 2 2] (w2.alloc (.cells #[.pointer p0, .pointer p1, .pointer p2, .pointer p3] 51)) fun e w' => ∃ v, e = .returned v ∧ (Arr w' v (nums R ++ nums F) ∧ Vec Elem.ints w' v (nums R ++ nums F)) ∧ (∀ k, In v k → w.heap.size ≤ k) ∧ Below w.heap.size w w') := Lib.hid fun w1 w2 g hg h1 h2 hs => by
    subst hg
    have bn := Blk.new w2 51 #[.pointer p0, .pointer p1, .pointer p2, .pointer p3]
    have b3 : Below w.heap.size w (w2.alloc (.cells #[.pointer p0, .pointer p1, .pointer p2, .pointer p3] 51)) := (below_then h1 h1.size h2).alloc (by have := h1.size; omega) _
    have hm' : (nums R ++ nums F).length ≤ many := by simp only [QR.all, List.length_append] at hm ⊢; omega
    have hsub : ∀ x ∈ nums R ++ nums F, x ∈ QR.all ⟨nums R, nums F⟩ := fun x hx => by simpa [QR.all] using hx
    have hrd : Rd (w2.alloc (.cells #[.pointer p0, .pointer p1, .pointer p2, .pointer p3] 51)) w2.heap.size 0 [(⟨rb, 0, none⟩, R), (⟨rb, 2, none⟩, F)] := fun i r hr => by
      match i, hr with
      | 0, hr =>
        injection hr with hr; subst hr
        exact ⟨by rw [bn.cell]; simp [e0], by rw [bn.cell]; simp [e1], sR.grew b3⟩
      | 1, hr =>
        injection hr with hr; subst hr
        exact ⟨by rw [bn.cell]; simp [e2], by rw [bn.cell]; simp [e3], sF.grew b3⟩
      | i + 2, hr => simp at hr
    refine (told_any _ hrd rfl (by simp) (Nat.le_trans (by simp [toldL]) hm')).mono fun e w' ⟨v, k1, k2, k3, k4⟩ => ⟨v, k1, ⟨?_, ?_⟩, fun k hk => ?_, below_then b3 b3.size k4⟩
    · have := k2.arr (fun x hx => h5 x (hsub x (by simpa [toldL] using hx)))
      simpa [toldL] using this
    · simpa [toldL] using k2
    · have := k3 k hk; have := b3.size; omega
  unfold rowV at K; rw [e0, e1, e2, e3] at K
  clear hb hp hc sR sF h5 e0 e1 e2 e3 hm
  show Calls _ _ _ _ fun e w' => ∃ v, e = .returned v ∧ (Arr w' v (nums R ++ nums F) ∧ Vec Elem.ints w' v (nums R ++ nums F)) ∧ (∀ k, In v k → w.heap.size ≤ k) ∧ Below w.heap.size w w'
  go_enter Try.func24, Try.ntmps24
  go_wp2_with fail
  refine K.out.mono ?_; rintro e w1 ⟨rfl, hb⟩
  have B := Lib.hid hb
  clear hb c0
  go_wp2_with fail
  refine (T.out w1 _ _ ?_ B.out ?_ ?_).mono ?_
  · simp [World.size_alloc]
  · exact ((Below.refl _ w1).alloc (Nat.le_refl _) _).alloc (by rw [World.size_alloc]; omega) _
  · simp only [World.size_alloc]; omega
  · rintro e w3 ⟨v, rfl, h⟩
    have H := Lib.hid h
    clear h
    go_wp2
    go_ret
    exact ⟨v, rfl, H.out⟩
end Go.Proofs.Ytolccandekgmoaa
