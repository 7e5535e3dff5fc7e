/- The program's stack and moves beside the document's (for StackMoves). -/
import Derived.Test.YtgaecgijmnkdgaaOnce13
import Derived.Test.YtgaecgijmnkdgaaRefK13b
import Derived.Test.YtgaecgijmnkdgaaSame11
namespace Go.Proofs.Ytgaecgijmnkdgaa
open Go.RowKit StackMath
set_option linter.unusedVariables false
set_option maxRecDepth 100000

def Elem.prs : Elem (Nat × Nat) := ⟨2, fun x => [.pointer (some ⟨x.1, 0, none⟩), .pointer (some ⟨x.2, 0, none⟩)], fun _ => rfl, by
  intro x u h
  rcases List.mem_cons.1 h with h | h
  · rw [h]; rfl
  · rw [List.mem_singleton.1 h]; rfl, by decide⟩
/-- Both side by side; each block's label says whose it is. -/
structure TM (w : World) (s q : Nat) (S : SS) (ms : Mvs) (S' : SS) (ms' : Mvs) (nbs : List Nat) (v pv : Value) (w' : World) : Prop where
  fs : FS w s S ms w'
  rs : RS w' q v S'
  rm : ∀ (i : Nat) y b, ms'[i]? = some y → nbs[i]? = some b → RM w' b q y.2
  len : nbs.length = ms.length ∧ ms'.length = ms.length
  vp : Vec Elem.prs w' pv ((ms.map (·.1)).zip nbs)
  nd : ∀ (i j : Nat) b, nbs[i]? = some b → nbs[j]? = some b → i = j
  lab : ∃ lab : Nat → Nat, lab s = 0 ∧ (∀ x ∈ ms, lab x.1 = 1) ∧ lab q = 2 ∧ (∀ b ∈ nbs, lab b = 3 ∧ b < w'.heap.size) ∧ (∀ k, In v k → lab k = 4) ∧ ∀ k, In pv k → lab k = 5
  lo : w.heap.size ≤ q ∧ (∀ b ∈ nbs, w.heap.size ≤ b) ∧ (∀ k, In v k → w.heap.size ≤ k) ∧ ∀ k, In pv k → w.heap.size ≤ k
section
variable {w w' w2 : World} {s q : Nat} {S S' : SS} {ms ms' : Mvs} {nbs : List Nat} {v pv : Value}
theorem TM.grew (h : TM w s q S ms S' ms' nbs v pv w') (hb : Below w'.heap.size w' w2) : TM w s q S ms S' ms' nbs v pv w2 := by
  have u := updFalse_of hb
  obtain ⟨lab, l1, l2, l3, l4, l5, l6⟩ := h.lab
  exact ⟨h.fs.grew hb, h.rs.upd u id (fun _ _ => id), fun i y b h1 h2 => (h.rm i y b h1 h2).upd u id, h.len, h.vp.upd u (fun _ _ => id), h.nd, ⟨lab, l1, l2, l3, fun b hb' => ⟨(l4 b hb').1, Nat.lt_of_lt_of_le (l4 b hb').2 hb.size⟩, l5, l6⟩, h.lo⟩
theorem TM.alloc (h : TM w s q S ms S' ms' nbs v pv w') (o : Obj) : TM w s q S ms S' ms' nbs v pv (w'.alloc o) := h.grew ((Below.refl _ _).alloc (Nat.le_refl _) o)
theorem TM.drew (h : TM w s q S ms S' ms' nbs v pv w') : TM w s q S ms S' ms' nbs v pv w'.drew := h.grew (below_drewN (Below.refl _ _) 1)
theorem TM.rmlt (h : TM w s q S ms S' ms' nbs v pv w') {b : Nat} (hb : b ∈ nbs) : b < w'.heap.size := by
  obtain ⟨lab, _, _, _, l4, _⟩ := h.lab
  exact (l4 b hb).2
/-- A step of the program's. -/
theorem tm_land (h : TM w s q S ms S' ms' nbs v pv w') (hm : ManyB S) {i m : Nat} {M : MV} (hi : ms[i]? = some (m, M)) :
    Calls Try.prog 13 #[.pointer (some ⟨m, 0, none⟩)] w' fun e w2 => e = .returned (.bool (!M.over)) ∧ TM w s q (stepE S M).1 (ms.set i (m, (stepE S M).2)) S' ms' nbs v pv w2 ∧ Upd (fun k => k = m ∨ k = s) w' w2 := by
  obtain ⟨lab, l1, l2, l3, l4, l5, l6⟩ := h.lab
  have lm := l2 _ (List.mem_of_getElem? hi)
  simp only at lm
  refine (fs_step h.fs hm hi).mono ?_
  rintro e w2 ⟨e1, e2, e3⟩
  have u : Upd (fun k => k = m ∨ k = s) w' w2 := e3.upd.mono (fun k hk => by rcases hk with x | ⟨c, x⟩; exact .inl x; exact .inr x.1)
  have other : ∀ k, lab k ≠ 0 → lab k ≠ 1 → ¬ (k = m ∨ k = s) := fun k h0 h1 hk => by
    rcases hk with rfl | rfl
    · exact h1 lm
    · exact h0 l1
  have hids : (ms.set i (m, (stepE S M).2)).map (·.1) = ms.map (·.1) := ids_set hi
  refine ⟨e1, ⟨e2, h.rs.upd u (other q (by rw [l3]; decide) (by rw [l3]; decide)) (fun k hk => other k (by rw [l5 k hk]; decide) (by rw [l5 k hk]; decide)), fun j y b h1 h2 => (h.rm j y b h1 h2).upd u (other b (by rw [(l4 b (List.mem_of_getElem? h2)).1]; decide) (by rw [(l4 b (List.mem_of_getElem? h2)).1]; decide)), by rw [List.length_set]; exact h.len, ?_, h.nd, ⟨lab, l1, fun x hx => ?_, l3, fun b hb => ⟨(l4 b hb).1, Nat.lt_of_lt_of_le (l4 b hb).2 u.size⟩, l5, l6⟩, h.lo⟩, u⟩
  · rw [hids]; exact h.vp.upd u (fun k hk => other k (by rw [l6 k hk]; decide) (by rw [l6 k hk]; decide))
  · have : x.1 ∈ ms.map (·.1) := by rw [← hids]; exact List.mem_map.2 ⟨x, hx, rfl⟩
    obtain ⟨y, hy, e⟩ := List.mem_map.1 this
    rw [← e]; exact l2 y hy
/-- A step of the document's. -/
theorem tm_doc (h : TM w s q S ms S' ms' nbs v pv w') (g : GoodS S') {i m b : Nat} {M : MV} (gm : GoodM S' M) (hm : ManyB S') (hi : ms'[i]? = some (m, M)) (hb : nbs[i]? = some b) :
    Calls Try.prog 14 #[.pointer (some ⟨b, 0, none⟩)] w' fun e w2 => e = .returned (.bool (!M.over)) ∧ (∃ v', TM w s q S ms (stepE S' M).1 (ms'.set i (m, (stepE S' M).2)) nbs v' pv w2) ∧ Upd (fun k => k = q ∨ k = b) w' w2 := by
  obtain ⟨lab, l1, l2, l3, l4, l5, l6⟩ := h.lab
  have lb := (l4 b (List.mem_of_getElem? hb)).1
  have hbq : b ≠ q := fun e => by rw [e, l3] at lb; cases lb
  have hbv : ∀ k, In v k → k ≠ b := fun k hk e => by have := l5 k hk; rw [e, lb] at this; cases this
  refine (rstep_any w' h.rs (h.rm i _ b hi hb) g gm hm hbq hbv).mono ?_
  rintro e w2 ⟨e1, ⟨v', h1, h2⟩, h3, u⟩
  have other : ∀ k, lab k ≠ 2 → lab k ≠ 3 → ¬ (k = q ∨ k = b) := fun k h0 h1 hk => by
    rcases hk with rfl | rfl
    · exact h0 l3
    · exact h1 lb
  obtain ⟨hlt, _⟩ := List.getElem?_eq_some_iff.1 hi
  have hsl := h.fs.lt
  have hpvlt : ∀ k, In pv k → k < w'.heap.size := fun k hk => h.vp.lt hk
  have hql := h.rs.lt
  refine ⟨e1, ⟨v', h.fs.upd u (fun k hk => ?_), h1, fun j y b2 hj hb2 => ?_, by rw [List.length_set]; exact h.len, h.vp.upd u (fun k hk => other k (by rw [l6 k hk]; decide) (by rw [l6 k hk]; decide)), h.nd, ⟨fun k => if k < w'.heap.size then lab k else 4, ?_, fun x hx => ?_, ?_, fun b' hb' => ?_, fun k hk => ?_, fun k hk => ?_⟩, h.lo.1, h.lo.2.1, fun k hk => ?_, h.lo.2.2.2⟩, u⟩
  · rcases hk with rfl | rfl
    · exact ⟨h.lo.1, (fun e => by rw [e, l1] at l3; cases l3), (fun x hx e => by have := l2 x hx; rw [e, l3] at this; cases this)⟩
    · exact ⟨h.lo.2.1 k (List.mem_of_getElem? hb), (fun e => by rw [e, l1] at lb; cases lb), (fun x hx e => by have := l2 x hx; rw [e, lb] at this; cases this)⟩
  · rw [List.getElem?_set] at hj
    by_cases hij : i = j
    · rw [if_pos hij, if_pos hlt] at hj
      injection hj with hj
      subst hj
      subst hij
      rw [hb] at hb2
      injection hb2 with hb2
      subst hb2
      exact h3
    · rw [if_neg hij] at hj
      refine (h.rm j y b2 hj hb2).upd u (fun hk => ?_)
      rcases hk with rfl | rfl
      · have := (l4 _ (List.mem_of_getElem? hb2)).1; rw [l3] at this; cases this
      · exact hij (h.nd i j _ hb hb2)
  · show (if s < _ then _ else _) = _; rw [if_pos hsl]; exact l1
  · show (if x.1 < _ then _ else _) = _; rw [if_pos (h.fs.mlt hx)]; exact l2 x hx
  · show (if q < _ then _ else _) = _; rw [if_pos hql]; exact l3
  · refine ⟨?_, Nat.lt_of_lt_of_le (l4 b' hb').2 u.size⟩
    show (if b' < _ then _ else _) = _; rw [if_pos (l4 b' hb').2]; exact (l4 b' hb').1
  · show (if k < _ then _ else _) = _
    rcases h2 k hk with hk' | hk'
    · rw [if_pos (h.rs.vec.lt hk')]; exact l5 k hk'
    · rw [if_neg (by omega)]
  · show (if k < _ then _ else _) = _; rw [if_pos (hpvlt k hk)]; exact l6 k hk
  · rcases h2 k hk with hk' | hk'
    · exact h.lo.2.2.1 k hk'
    · exact Nat.le_trans h.fs.below.size hk'
/-- A new pair: the program's move at m (made ahead), the document's at b, in a new block; the row that holds both. -/
theorem tm_more (h : TM w s q S ms S ms nbs v pv w') {m : Nat} {M : MV} (k : MK w' m s 0 M) (g : GoodM S M) (hm1 : ∀ x ∈ ms, x.1 ≠ m) (hm0 : m ≠ s) (hmw : w.heap.size ≤ m) (hmq : m ≠ q) (hmn : ∀ b ∈ nbs, b ≠ m) (hmv : ∀ k, In v k → k ≠ m) (hmp : ∀ k, In pv k → k ≠ m) {b : Nat} {w3 w4 : World} {pv' : Value}
    (hb : b = w'.heap.size) (hw3 : Below w'.heap.size w' w3) (hbr : RM w3 b q M) (hp : Vec Elem.prs w4 pv' (((ms.map (·.1)).zip nbs) ++ [(m, b)])) (hu : Upd (In pv) w3 w4) (hin : ∀ k, In pv' k → In pv k ∨ w3.heap.size ≤ k) :
    TM w s q S (ms ++ [(m, M)]) S (ms ++ [(m, M)]) (nbs ++ [b]) v pv' w4 := by
  obtain ⟨lab, l1, l2, l3, l4, l5, l6⟩ := h.lab
  have h3 := h.grew hw3
  have hb3 : b < w3.heap.size := hbr.lt
  have hsl := h.fs.lt
  have hql := h.rs.lt
  have kl : m < w'.heap.size := k.lt
  have apv : ∀ k, lab k ≠ 5 → ¬ In pv k := fun k hk hk' => hk (l6 k hk')
  have bpv : ¬ In pv b := fun hk => by have := h.vp.lt hk; omega
  have fs4 : FS w s S ms w4 := h3.fs.upd hu (fun k hk => ⟨h.lo.2.2.2 k hk, (fun e => by have := l6 k hk; rw [e, l1] at this; cases this), (fun x hx e => by have := l6 k hk; rw [← e, l2 x hx] at this; cases this)⟩)
  have kk : MK w4 m s 0 M := (k.grew hw3).upd hu (fun hk => hmp m hk rfl)
  refine ⟨fs4.more kk g hmw hm0 hm1, h3.rs.upd hu (apv q (by rw [l3]; decide)) (fun k hk => apv k (by rw [l5 k hk]; decide)), fun i y b' hy hb' => ?_, ?_, ?_, fun i j b' hi hj => ?_, ?_, h.lo.1, fun b' hb' => ?_, h.lo.2.2.1, fun k hk => ?_⟩
  · rw [List.getElem?_append] at hy hb'
    rw [h.len.1] at hb'
    split at hy
    · rename_i hlt
      rw [if_pos hlt] at hb'
      exact ((h3.rm i y b' hy hb')).upd hu (apv b' (by rw [(l4 b' (List.mem_of_getElem? hb')).1]; decide))
    · rename_i hlt
      rw [if_neg hlt] at hb'
      rw [List.getElem?_singleton] at hy hb'
      split at hy
      · rename_i h0
        rw [if_pos h0] at hb'
        injection hy with hy; injection hb' with hb'
        subst hy hb'
        exact hbr.upd hu bpv
      · cases hy
  · rw [List.length_append, List.length_append, h.len.1]; exact ⟨rfl, rfl⟩
  · rw [List.map_append, List.zip_append (by rw [List.length_map]; exact h.len.1.symm)]; exact hp
  · have bnew : ∀ (i : Nat), nbs[i]? ≠ some b := fun i hi => by have := (l4 b (List.mem_of_getElem? hi)).2; omega
    rw [List.getElem?_append] at hi hj
    split at hi
    · split at hj
      · exact h.nd i j b' hi hj
      · rw [List.getElem?_singleton] at hj
        split at hj
        · injection hj with hj; subst hj; exact absurd hi (bnew i)
        · cases hj
    · rw [List.getElem?_singleton] at hi
      split at hi
      · injection hi with hi
        subst hi
        split at hj
        · exact absurd hj (bnew j)
        · rw [List.getElem?_singleton] at hj
          split at hj
          · omega
          · cases hj
      · cases hi
  · refine ⟨fun k => if k = m then 1 else if k < w'.heap.size then lab k else if k = b then 3 else 5, ?_, fun x hx => ?_, ?_, fun b' hb' => ?_, fun k hk => ?_, fun k hk => ?_⟩
    · show (if s = m then _ else _) = _
      rw [if_neg (fun e => hm0 e.symm), if_pos hsl]; exact l1
    · show (if x.1 = m then _ else _) = _
      rcases List.mem_append.1 hx with hx | hx
      · rw [if_neg (hm1 x hx), if_pos (h.fs.mlt hx)]; exact l2 x hx
      · rw [List.mem_singleton.1 hx, if_pos rfl]
    · show (if q = m then _ else _) = _
      rw [if_neg (fun e => hmq e.symm), if_pos hql]; exact l3
    · rcases List.mem_append.1 hb' with hb' | hb'
      · refine ⟨?_, Nat.lt_of_lt_of_le (l4 b' hb').2 (Nat.le_trans hw3.size hu.size)⟩
        show (if b' = m then _ else _) = _
        rw [if_neg (hmn b' hb'), if_pos (l4 b' hb').2]; exact (l4 b' hb').1
      · rw [List.mem_singleton.1 hb']
        refine ⟨?_, Nat.lt_of_lt_of_le hb3 hu.size⟩
        show (if b = m then _ else _) = _
        rw [if_neg (by omega), if_neg (by omega), if_pos rfl]
    · show (if k = m then _ else _) = _
      rw [if_neg (hmv k hk), if_pos (h.rs.vec.lt hk)]; exact l5 k hk
    · show (if k = m then _ else _) = _
      rcases hin k hk with hk' | hk'
      · rw [if_neg (hmp k hk'), if_pos (h.vp.lt hk')]; exact l6 k hk'
      · rw [if_neg (by have := hw3.size; omega), if_neg (by have := hw3.size; omega), if_neg (by omega)]
  · rcases List.mem_append.1 hb' with hb' | hb'
    · exact h.lo.2.1 b' hb'
    · rw [List.mem_singleton.1 hb', hb]; exact h.fs.below.size
  · rcases hin k hk with hk' | hk'
    · exact h.lo.2.2.2 k hk'
    · have := h.fs.below.size; have := hw3.size; omega
end
theorem infoPr : (Try.prog.info? 43).map (fun i => (i.zero, i.size, i.bytes)) = some (some (.agg #[.pointer none, .pointer none]), 2, 16) := by kernel_rfl
theorem prs_one (w : World) (t : TypeId) (m b g : Nat) (hg : g = w.heap.size) : Seq Elem.prs (w.alloc (.cells #[.pointer (some ⟨m, 0, none⟩), .pointer (some ⟨b, 0, none⟩)] t)) (.slice (some ⟨g, 0, none⟩) 1 1) [(m, b)] := by
  subst hg; exact Seq.new (E := Elem.prs) w t [(m, b)] 1
theorem prs_at {w : World} {a : Option Addr} {n c : Nat} {ids nbs : List Nat} (h : Seq Elem.prs w (.slice a n c) (ids.zip nbs)) {t m b : Nat} (hm : ids[t]? = some m) (hb : nbs[t]? = some b) : ∃ g off, a = some ⟨g, off, none⟩ ∧ w.cell? ⟨g, off + t * 2, none⟩ = some (.pointer (some ⟨m, 0, none⟩)) ∧ w.cell? ⟨g, off + t * 2 + 1, none⟩ = some (.pointer (some ⟨b, 0, none⟩)) := by
  obtain ⟨g, off, ea, hc⟩ := h.elem (i := t) (x := (m, b)) (List.getElem?_zip_eq_some.2 ⟨hm, hb⟩)
  have h0 := hc 0 (.pointer (some ⟨m, 0, none⟩)) rfl
  have h1 := hc 1 (.pointer (some ⟨b, 0, none⟩)) rfl
  exact ⟨g, off, ea, by simpa [Elem.prs] using h0, by simpa [Elem.prs] using h1⟩
end Go.Proofs.Ytgaecgijmnkdgaa
