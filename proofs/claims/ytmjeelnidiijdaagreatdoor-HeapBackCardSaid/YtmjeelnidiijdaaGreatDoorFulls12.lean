/- Fulls12: texts of layers below, joined (Full12 Full12b). -/
import Derived.Test.YtmjeelnidiijdaaGreatDoorGets12
/- A heap that is filled with one class's blocks (HeapFull), as numbers. -/
namespace Go.Proofs.YtmjeelnidiijdaaGreatDoor.HeapMath
open ListMath GeoMath PageMath ClassMath SegMath QueueMath
open ArenaMath (St reserve release total)
set_option linter.unusedVariables false

def FullP (S : PG) : Prop := (allocP S).2.2 ≠ 0
/-- All pages are of class c, one behind the other; pages of the full row are full. -/
structure FullI (c : Nat) (H : HS) : Prop where
  cls : ∀ X ∈ H.B, ∀ o ∈ X.L, o.cls = (c : Int) ∧ o.P.cw = 0
  pos : ∀ X ∈ H.B, X.K = MarkMath.setAt newK 1 (X.L.length * slicesAt c) true ∧ X.L.length * slicesAt c ≤ 15
  row : ∀ X ∈ H.B, ∀ o ∈ X.L, keyOf X o ∈ (H.Q c).F → FullP o.P
section
variable {H H' : HS} {L U : List Nat} {X Z : SG} {o z : OwR} {A A' : St} {c : Nat}
theorem qi_nat (c : Nat) : qi (c : Int) = c := by unfold qi; rw [if_neg (by omega), Int.toNat_natCast]
theorem put_key {pp : Nat} {S : PG} (hz : z ∈ (X.put pp S).L) : ∃ u ∈ X.L, keyOf (X.put pp S) z = keyOf X u ∧ z.cls = u.cls ∧ ((u.pp = pp ∧ z = { u with P := S }) ∨ (u.pp ≠ pp ∧ z = u)) := by
  obtain ⟨u, hu, e⟩ := put_mem.1 hz
  by_cases h : u.pp = pp
  · rw [if_pos h] at e; exact ⟨u, hu, by rw [e]; rfl, by rw [e], .inl ⟨h, e⟩⟩
  · rw [if_neg h] at e; exact ⟨u, hu, by rw [e]; rfl, by rw [e], .inr ⟨h, e⟩⟩
theorem localGo_row {c : Int} : ∀ (l : List Int) {H : HS}, GoodH H → (∀ k ∈ l, PgAt H.B (qi c) k) → (∀ X ∈ H.B, ∀ o ∈ X.L, keyOf X o ∈ (H.Q (qi c)).F → FullP o.P) →
    ∀ X ∈ (localGo c l H).1.B, ∀ o ∈ X.L, keyOf X o ∈ ((localGo c l H).1.Q (qi c)).F → FullP o.P
  | [], H, g, _, hr => hr
  | k :: t, H, g, hl, hr => by
    obtain ⟨X, hX, o, ho, hq, e⟩ := hl k (List.mem_cons_self ..)
    have hf : findH H (k.toNat * 1024) = some (X, o) := by rw [e]; exact findH_key g hX ho
    by_cases ha : (allocP o.P).2.2 = 0
    · have e2 : localGo c (k :: t) H = (H.setB (X.put o.pp (allocP o.P).1), (allocP o.P).2.1, 0, newsOf o.P) := by
        unfold localGo; rw [hf]; simp only []; rw [if_pos ha]
      rw [e2]
      intro Z hZ z hz hk
      change keyOf Z z ∈ (H.Q (qi c)).F at hk
      rcases mem_setB.1 hZ with ⟨rfl, _⟩ | ⟨hZ, _⟩
      · obtain ⟨u, hu, k1, _, k3⟩ := put_key hz
        rw [k1] at hk
        rcases k3 with ⟨k3, k4⟩ | ⟨_, k4⟩
        · have := pp_only (g.seg X hX) ho hu k3
          subst this
          exact absurd ha (hr X hX u hu hk)
        · rw [k4]; exact hr X hX u hu hk
      · exact hr Z hZ z hz hk
    · have e2 : localGo c (k :: t) H = localGo c t (H.setQ c (fillE (H.Q (qi c)) k).1) := by
        rw [localGo]; rw [hf]; simp only []; rw [if_neg ha]
      rw [e2]
      refine localGo_row (c := c) t (g.fill c k) (fun k hk => hl k (List.mem_cons_of_mem _ hk)) fun Z hZ z hz hk => ?_
      change keyOf Z z ∈ (if qi c = qi c then (fillE (H.Q (qi c)) k).1 else _).F at hk
      rw [if_pos rfl] at hk
      unfold fillE at hk
      split at hk
      · rcases List.mem_append.1 hk with h | h
        · exact hr Z hZ z hz h
        · have h := List.mem_singleton.1 h
          obtain ⟨rfl, rfl⟩ := key_one g hX hZ ho hz (e.symm.trans h.symm)
          exact ha
      · exact hr Z hZ z hz hk
theorem alloc_cw (S : PG) : (allocP S).1.cw = S.cw := by
  cases hF : (refill S).F with
  | nil => rw [allocP_nil hF]
  | cons a t =>
    rw [allocP_cons hF]
    show (refill S).cw = _
    unfold refill; split
    · rfl
    · split <;> rfl
theorem FullI.local' (g : GoodH H) (f : FullI c H) (hc : c < 12) : FullI c (localH H (c : Int)).1 := by
  have hrow : ∀ X ∈ (localH H (c : Int)).1.B, ∀ o ∈ X.L, keyOf X o ∈ ((localH H (c : Int)).1.Q c).F → FullP o.P := by
    have h := localGo_row (c := (c : Int)) (H.Q (qi c)).R g (ready_at g (qi c)) (by rw [qi_nat]; exact f.row)
    have e : localH H (c : Int) = localGo c (H.Q (qi c)).R H := by unfold localH; rw [if_neg (by omega)]
    rw [e]
    rw [qi_nat] at h ⊢
    exact h
  rcases localH_cases g (c : Int) with ⟨_, _, H1, X, o, h1, h2, h3, h4, h5, h6, e⟩ | ⟨H1, e0, h1, h2, h3, e⟩
  · rw [e] at hrow ⊢
    refine ⟨fun Z hZ z hz => ?_, fun Z hZ => ?_, hrow⟩
    · rcases mem_setB.1 hZ with ⟨rfl, _⟩ | ⟨hZ, _⟩
      · obtain ⟨u, hu, k1, k2, k3⟩ := put_key hz
        rcases k3 with ⟨k3, k4⟩ | ⟨_, k4⟩
        · have := pp_only (g.seg X h3) h4 hu k3
          subst this
          rw [k4]
          exact ⟨(f.cls X h3 u hu).1, (alloc_cw _).trans (f.cls X h3 u hu).2⟩
        · rw [k4]; exact f.cls X h3 u hu
      · rw [h1] at hZ; exact f.cls Z hZ z hz
    · rcases mem_setB.1 hZ with ⟨rfl, _⟩ | ⟨hZ, _⟩
      · have := f.pos X h3
        have el : (X.put o.pp (allocP o.P).1).L.length = X.L.length := List.length_map ..
        rw [el]; exact this
      · rw [h1] at hZ; exact f.pos Z hZ
  · rw [e] at hrow ⊢
    exact ⟨fun Z hZ => f.cls Z (by rw [← h1]; exact hZ), fun Z hZ => f.pos Z (by rw [← h1]; exact hZ), hrow⟩
theorem insR_len : ∀ {l : List OwR} {o : OwR}, (∀ x ∈ l, x.lo ≠ o.lo) → (insR l o).length = l.length + 1 := fun {l o} h => by
  unfold insR
  rw [List.length_append, List.length_cons]
  have : (l.filter fun x => decide (x.lo < o.lo)).length + (l.filter fun x => decide (o.lo < x.lo)).length = l.length := by
    induction l with
    | nil => rfl
    | cons x t ih =>
      have := ih fun y hy => h y (List.mem_cons_of_mem _ hy)
      have hx := h x (List.mem_cons_self ..)
      rcases Nat.lt_or_gt_of_ne hx with h1 | h1
      · rw [List.filter_cons_of_pos (by simpa using h1), List.filter_cons_of_neg (by simp; omega)]; simp only [List.length_cons]; omega
      · rw [List.filter_cons_of_neg (by simp; omega), List.filter_cons_of_pos (by simpa using h1)]; simp only [List.length_cons]; omega
  omega
theorem rows_of : ∀ wd : Fin 5, 1 ≤ wd.1 → ∀ j : Fin 16, j.1 * wd.1 ≤ 15 → (j.1 * wd.1 + wd.1 ≤ 15 → MarkMath.low (MarkMath.setAt newK 1 (j.1 * wd.1) true) wd.1 = some (1 + j.1 * wd.1) ∧ MarkMath.setAt (MarkMath.setAt newK 1 (j.1 * wd.1) true) (1 + j.1 * wd.1) wd.1 true = MarkMath.setAt newK 1 ((j.1 + 1) * wd.1) true) ∧ (15 < j.1 * wd.1 + wd.1 → MarkMath.low (MarkMath.setAt newK 1 (j.1 * wd.1) true) wd.1 = none) := by decide
theorem rows_at {wd j : Nat} (h1 : 1 ≤ wd) (h4 : wd ≤ 4) (hj : j < 16) (hjw : j * wd ≤ 15) : (j * wd + wd ≤ 15 → MarkMath.low (MarkMath.setAt newK 1 (j * wd) true) wd = some (1 + j * wd) ∧ MarkMath.setAt (MarkMath.setAt newK 1 (j * wd) true) (1 + j * wd) wd true = MarkMath.setAt newK 1 ((j + 1) * wd) true) ∧ (15 < j * wd + wd → MarkMath.low (MarkMath.setAt newK 1 (j * wd) true) wd = none) := rows_of ⟨wd, by omega⟩ h1 ⟨j, hj⟩ hjw
theorem pos_lt {j wd : Nat} (h1 : 1 ≤ wd) (h : j * wd ≤ 15) : j < 16 := by
  have : j * 1 ≤ j * wd := Nat.mul_le_mul_left _ h1
  omega
theorem FullI.fresh (g : GoodH H) (f : FullI c H) (hc : c < 12) {sl : Int} {x : Nat} (h : Freshed H (c : Int) sl x H') : FullI c H' := by
  obtain ⟨X, a, op, pp, hr, hp, _, rfl⟩ := h
  obtain ⟨hX, ha⟩ := roomH_some hr
  have z2 := slices_bounds hc
  have ew : wdOf (c : Int) sl.toNat = slicesAt c := by unfold wdOf; rw [if_neg (by omega), Int.toNat_natCast]
  rw [ew] at ha
  have hlow := MarkMath.low_some z2.1 ha
  have hfree := (g.seg X hX).g.free z2.1 hlow.1
  have hlo : ∀ y ∈ X.L, y.lo ≠ a := fun y hy => by have := hfree.2.2 y hy; have := ((g.seg X hX).g.fit y hy).2.1; omega
  obtain ⟨p1, p2⟩ := f.pos X hX
  have hra := rows_at z2.1 z2.2 (pos_lt z2.1 p2) p2
  have hmem : ∀ y, y ∈ (freshX X op pp (c : Int) sl.toNat a).L → (y ∈ X.L ∨ (y.lo = a ∧ y.cls = (c : Int) ∧ y.P.cw = 0)) := fun y hy => by
    obtain ⟨u, hu, e⟩ := put_mem.1 hy
    rcases insR_mem.1 (show u ∈ insR X.L _ from hu) with rfl | ⟨hu, _⟩
    · rw [if_pos rfl] at e; rw [e]; exact .inr ⟨rfl, rfl, rfl⟩
    · rw [if_neg (hp u hu)] at e; rw [e]; exact .inl hu
  have hlen : (freshX X op pp (c : Int) sl.toNat a).L.length = X.L.length + 1 := by
    show ((insR X.L _).map _).length = _
    rw [List.length_map]
    exact insR_len hlo
  refine ⟨fun Z hZ z hz => ?_, fun Z hZ => ?_, fun Z hZ z hz hk => ?_⟩
  · rcases mem_setB.1 hZ with ⟨rfl, _⟩ | ⟨hZ, _⟩
    · rcases hmem z hz with h | ⟨_, h1, h2⟩
      · exact f.cls X hX z h
      · exact ⟨h1, h2⟩
    · exact f.cls Z hZ z hz
  · rcases mem_setB.1 hZ with ⟨rfl, _⟩ | ⟨hZ, _⟩
    · rw [hlen]
      have hK : (freshX X op pp (c : Int) sl.toNat a).K = MarkMath.setAt X.K a (slicesAt c) true := by
        show MarkMath.setAt X.K a (wdOf (c : Int) sl.toNat) true = _
        rw [ew]
      rw [hK]
      by_cases h15 : X.L.length * slicesAt c + slicesAt c ≤ 15
      · obtain ⟨r1, r2⟩ := hra.1 h15
        rw [← p1, ha] at r1
        injection r1 with r1
        rw [p1, r1]
        exact ⟨r2, by rw [Nat.add_mul]; omega⟩
      · have := hra.2 (by omega)
        rw [← p1, ha] at this
        cases this
    · exact f.pos Z hZ
  · have hq : (freshH H X op pp (c : Int) sl.toNat a).Q c = (pushE (H.Q c) [keyAt X.pl a]).1 := by
      show (if c = qi (c : Int) then _ else _) = _
      rw [qi_nat, if_pos rfl]
    rw [hq] at hk
    have hk' : keyOf Z z ∈ (H.Q c).F := by
      unfold pushE at hk
      split at hk
      · exact hk
      · exact hk
    rcases mem_setB.1 hZ with ⟨rfl, _⟩ | ⟨hZ, _⟩
    · rcases hmem z hz with h | ⟨h, _⟩
      · exact f.row X hX z h hk'
      · exfalso
        obtain ⟨Y, hY, y, hy, _, e⟩ := (g.mem c _).1 (mem_all.2 (.inr hk'))
        have hy16 := lo_lt (g.seg Y hY).g hy
        have e' : keyAt X.pl a = keyAt Y.pl y.lo := by
          have e1 : keyOf (freshX X op pp (c : Int) sl.toNat a) z = keyAt X.pl a := by unfold HeapMath.keyOf; rw [h]; rfl
          rw [e1] at e; exact e
        have ha15 : a ≤ 15 := by have := hfree.2.1; omega
        obtain ⟨e1, e2⟩ := key_inj ha15 hy16.2 e'
        have := pl_one g.pls hX hY e1
        subst this
        exact hlo y hy e2.symm
    · exact f.row Z hZ z hz hk'
theorem FullI.rows (f : FullI c H) {id pl : Nat} (hB : H'.B = H.B ++ [ownedSG id pl]) (hQ : H'.Q = H.Q) : FullI c H' := by
  refine ⟨fun Z hZ z hz => ?_, fun Z hZ => ?_, fun Z hZ z hz hk => ?_⟩
  · rw [hB] at hZ
    rcases List.mem_append.1 hZ with h | h
    · exact f.cls Z h z hz
    · rw [List.mem_singleton.1 h] at hz; cases hz
  · rw [hB] at hZ
    rcases List.mem_append.1 hZ with h | h
    · exact f.pos Z h
    · rw [List.mem_singleton.1 h]
      show newK = MarkMath.setAt newK 1 (([] : List OwR).length * slicesAt c) true ∧ ([] : List OwR).length * slicesAt c ≤ 15
      rw [List.length_nil, Nat.zero_mul, MarkMath.setAt_none]
      exact ⟨rfl, by decide⟩
  · rw [hB] at hZ
    rw [hQ] at hk
    rcases List.mem_append.1 hZ with h | h
    · exact f.row Z h z hz hk
    · rw [List.mem_singleton.1 h] at hz; cases hz
end
end Go.Proofs.YtmjeelnidiijdaaGreatDoor.HeapMath
/- A heap that is filled with one class's blocks (HeapFull), as numbers: what is so when there are no more. -/
namespace Go.Proofs.YtmjeelnidiijdaaGreatDoor.HeapMath
open ListMath GeoMath PageMath ClassMath SegMath QueueMath
open ArenaMath (St reserve release total)
set_option linter.unusedVariables false

section
variable {H H' : HS} {L U V : List Nat} {X Z : SG} {o z : OwR} {A A' : St} {c sl x id : Nat} {ok : Bool}
theorem grow_no (h : (growH H A id).2.1 ≠ 0) : (growH H A id).1 = H ∧ (growH H A id).2.2 = (reserve A 1).2.2 ∧ (reserve A 1).2.1 ≠ 0 := by
  unfold growH at h ⊢
  split
  · rename_i hh; exact ⟨rfl, rfl, hh⟩
  · rename_i hh; rw [if_neg hh] at h; exact absurd rfl h
theorem grow_yes (h : (growH H A id).2.1 = 0) : ∃ pl, (growH H A id).1.B = H.B ++ [ownedSG id pl] ∧ (growH H A id).1.Q = H.Q ∧ (growH H A id).2.2 = (reserve A 1).2.2 := by
  unfold growH at h ⊢
  split
  · rename_i hh; rw [if_pos hh] at h; exact absurd h hh
  · exact ⟨_, rfl, rfl, rfl⟩
theorem FullI.loc (g : GoodH H) (f : FullI c H) (hc : c < 12) : FullI c (locH H (c : Int)) := by
  unfold locH; rw [if_pos (by omega)]; exact f.local' g hc
theorem FullI.way (g : GoodH H) (f : FullI c H) (hc : c < 12) (v : Way H A id (c : Int) sl x ok H' A') : FullI c H' := by
  cases v with
  | loc h1 h2 => exact f.local' g hc
  | new h1 h2 => exact (f.loc g hc).fresh (locH_rows g h1).2 hc h2
  | full h1 h2 h3 => rw [(grow_no h3).1]; exact f.loc g hc
  | more h1 h2 h3 h5 h4 =>
    obtain ⟨pl, e1, e2, _⟩ := grow_yes h3
    exact ((f.loc g hc).rows e1 e2).fresh h5 hc h4
/-- Local says no: whatever page is ready is full. -/
theorem local_no (g : GoodH H) (h0 : 0 ≤ (c : Int)) (hc : c < 12) (h : (localH H (c : Int)).2.2.1 ≠ 0) : (localH H (c : Int)).2.2.1 = 4 ∧ ∀ X ∈ H.B, ∀ o ∈ X.L, keyOf X o ∈ (H.Q c).R → FullP o.P := by
  have e : localH H (c : Int) = localGo c (H.Q (qi c)).R H := by unfold localH; rw [if_neg (by omega)]
  rw [e] at h ⊢
  rcases localGo_cases (c := (c : Int)) _ g (ready_at g (qi c)) with ⟨H1, X, o, _, _, _, _, _, _, h7⟩ | ⟨H1, _, _, h3, h4⟩
  · rw [h7] at h; exact absurd rfl h
  · rw [h3]
    refine ⟨rfl, fun X hX o ho hk => ?_⟩
    rw [qi_nat] at h4
    exact h4 _ hk X hX o ho rfl
theorem all_full (g : GoodH H) (f : FullI c H) (hc : c < 12) (h : (localH H (c : Int)).2.2.1 ≠ 0) : ∀ X ∈ H.B, ∀ o ∈ X.L, FullP o.P := fun X hX o ho => by
  have hk : keyOf X o ∈ (H.Q c).all := (g.mem c _).2 ⟨X, hX, o, ho, by rw [(f.cls X hX o ho).1, qi_nat], rfl⟩
  rcases mem_all.1 hk with h1 | h1
  · exact (local_no g (by omega) hc h).2 X hX o ho h1
  · exact f.row X hX o ho h1
/-- All pages are full: Local says that it is. -/
theorem local_full (g : GoodH H) (hc : c < 12) (h : ∀ X ∈ H.B, ∀ o ∈ X.L, FullP o.P) : (localH H (c : Int)).2.2.1 = 4 := by
  refine (local_no g (by omega) hc fun e => ?_).1
  rcases localH_cases g (c : Int) with ⟨_, _, H1, X, o, _, _, h3, h4, _, h6, _⟩ | ⟨H1, e0, _, _, h3, e1⟩
  · exact h X h3 o h4 h6
  · rw [e1] at e; exact h3 e
/-- Behind a get that found none. -/
theorem way_none (g : GoodH H) (f : FullI c H) (hc : c < 12) (v : Way H A id (c : Int) sl x false H' A') : (∀ X ∈ H'.B, ∀ o ∈ X.L, FullP o.P) ∧ (∀ X ∈ H'.B, X.L.length = 15 / slicesAt c) ∧ (reserve A 1).2.1 ≠ 0 ∧ A' = (reserve A 1).2.2 ∧ H'.B = H.B := by
  cases v with
  | full h1 h2 h3 =>
    obtain ⟨e1, e2, e3⟩ := grow_no h3
    obtain ⟨k1, k2⟩ := locH_rows g h1
    rw [e1, e2, k1]
    refine ⟨all_full g f hc (h1 (by omega)), fun X hX => ?_, e3, rfl, rfl⟩
    have hl := roomH_none h2 X (by rw [k1]; exact hX)
    have ew : wdOf (c : Int) sl = slicesAt c := by unfold wdOf; rw [if_neg (by omega), Int.toNat_natCast]
    rw [ew] at hl
    have z2 := slices_bounds hc
    obtain ⟨p1, p2⟩ := f.pos X hX
    have hra := rows_at z2.1 z2.2 (pos_lt z2.1 p2) p2
    have h15 : 15 < X.L.length * slicesAt c + slicesAt c := by
      rcases Nat.lt_or_ge 15 (X.L.length * slicesAt c + slicesAt c) with h | h
      · exact h
      · have := (hra.1 h).1
        rw [← p1, hl] at this
        cases this
    exact (Nat.div_eq_of_lt_le (by omega) (by rw [Nat.add_mul]; omega)).symm
/-! ### How many blocks are used -/
theorem count_parts {α : Type} {p : α → Nat → Bool} : ∀ (ps : List α) (U : List Nat), (∀ u ∈ U, ∃ a ∈ ps, p a u = true) → ps.Pairwise (fun a b => ∀ u, ¬ (p a u = true ∧ p b u = true)) → U.length = (ps.map fun a => (U.filter (p a)).length).sum
  | [], U, h1, _ => by
    cases U with
    | nil => rfl
    | cons u t => obtain ⟨a, ha, _⟩ := h1 u (List.mem_cons_self ..); cases ha
  | a :: t, U, h1, h2 => by
    obtain ⟨k1, k2⟩ := List.pairwise_cons.1 h2
    have ih := count_parts t (U.filter fun u => !p a u) (fun u hu => by
      obtain ⟨hu, hn⟩ := List.mem_filter.1 hu
      obtain ⟨b, hb, hp⟩ := h1 u hu
      rcases List.mem_cons.1 hb with rfl | hb
      · rw [hp] at hn; cases hn
      · exact ⟨b, hb, hp⟩) k2
    have e1 : ∀ V : List Nat, V.length = (V.filter (p a)).length + (V.filter fun u => !p a u).length := fun V => by
      induction V with
      | nil => rfl
      | cons u t ih =>
        cases hu : p a u with
        | true => rw [List.filter_cons_of_pos hu, List.filter_cons_of_neg (by simp [hu])]; simp only [List.length_cons]; omega
        | false => rw [List.filter_cons_of_neg (by simp [hu]), List.filter_cons_of_pos (by simp [hu])]; simp only [List.length_cons]; omega
    have e2 : (t.map fun b => ((U.filter fun u => !p a u).filter (p b)).length) = t.map fun b => (U.filter (p b)).length := List.map_congr_left fun b hb => by
      rw [List.filter_filter]
      congr 1
      refine List.filter_congr fun u _ => ?_
      cases hb2 : p b u with
      | false => simp
      | true =>
        cases ha2 : p a u with
        | false => rfl
        | true => exact absurd ⟨ha2, hb2⟩ (k1 b hb u)
    rw [e2] at ih
    rw [List.map_cons, List.sum_cons, ← ih]
    exact e1 U
theorem HU.count (g : GoodH H) (h : HU H L U) : U.length = ((H.B.flatMap fun X => X.L).map fun o => (U.filter (inRun o.P)).length).sum := by
  refine count_parts (p := fun (o : OwR) => inRun o.P) _ U (fun u hu => ?_) ?_
  · obtain ⟨X, hX, o, ho, hr⟩ := h.at' u hu
    exact ⟨o, List.mem_flatMap.2 ⟨X, hX, ho⟩, hr⟩
  · rw [List.pairwise_flatMap]
    have hone : ∀ X ∈ H.B, ∀ Z ∈ H.B, ∀ o ∈ X.L, ∀ z ∈ Z.L, (X.pl ≠ Z.pl ∨ o.lo ≠ z.lo) → ∀ u, ¬ (inRun o.P u = true ∧ inRun z.P u = true) := fun X hX Z hZ o ho z hz hne u ⟨h1, h2⟩ => by
      obtain ⟨rfl, rfl⟩ := inRun_one g hX ho hZ hz h1 h2
      exact hne.elim (fun e => e rfl) fun e => e rfl
    refine ⟨fun X hX => ?_, ?_⟩
    · have hr := (g.seg X hX).g.rise
      refine List.Pairwise.imp_of_mem (fun {o z} ho hz hl => ?_) hr
      have := ((g.seg X hX).g.fit o ho).2.1
      exact hone X hX X hX o ho z hz (.inr (by omega))
    · have hp := g.pls
      unfold List.Nodup at hp
      rw [List.pairwise_map] at hp
      refine List.Pairwise.imp_of_mem (fun {X Z} hX hZ hl => ?_) hp
      exact fun o ho z hz => hone X hX Z hZ o ho z hz (.inl hl)
theorem arena_len (g : GoodH H) (ga : ArenaMath.Good A) (hl : ∀ x, x ∈ A.l ↔ ∃ X ∈ H.B, x = (X.pl, 1)) : total A.l = H.B.length := by
  have hp : (A.l.map fun x => x.1).Nodup := by
    have := ga.ok.1
    unfold List.Nodup
    rw [List.pairwise_map]
    exact List.Pairwise.imp_of_mem (fun {x y} hx hy h => by have := (ga.ok.2 x hx).1; omega) this
  have hperm : (A.l.map fun x => x.1).Perm (H.B.map fun X => X.pl) := by
    rw [List.perm_ext_iff_of_nodup hp g.pls]
    intro a
    constructor
    · intro h
      obtain ⟨x, hx, rfl⟩ := List.mem_map.1 h
      obtain ⟨X, hX, e⟩ := (hl x).1 hx
      exact List.mem_map.2 ⟨X, hX, by rw [e]⟩
    · intro h
      obtain ⟨X, hX, rfl⟩ := List.mem_map.1 h
      exact List.mem_map.2 ⟨(X.pl, 1), (hl _).2 ⟨X, hX, rfl⟩, rfl⟩
  have hlen := hperm.length_eq
  rw [List.length_map, List.length_map] at hlen
  rw [← hlen]
  have h1 : ∀ l : List (Nat × Nat), (∀ x ∈ l, x.2 = 1) → total l = l.length := fun l => by
    induction l with
    | nil => intro _; rfl
    | cons x t ih =>
      intro h
      rw [ArenaMath.total_cons, ih fun y hy => h y (List.mem_cons_of_mem _ hy), h x (List.mem_cons_self ..), List.length_cons]; omega
  refine h1 _ fun x hx => ?_
  obtain ⟨X, _, e⟩ := (hl x).1 hx
  rw [e]
/-! ### One given back comes again -/
end
end Go.Proofs.YtmjeelnidiijdaaGreatDoor.HeapMath
