/- Of places that are pushed and popped in any turns each is popped once, or there: plain; and a map of counts. -/
import Derived.Test.YtgaecgijmnkdgaaMap13
namespace Go.Proofs.Ytgaecgijmnkdgaa.StackMath
set_option linter.unusedVariables false
abbrev Mvs := List (Nat × MV)
def isPopped (x : Nat) (y : Nat × MV) : Bool := !y.2.push && y.2.over && decide (y.2.top = (x : Int))
def b2n (b : Bool) : Nat := if b then 1 else 0
def popd (ms : Mvs) (x : Nat) : Nat := ms.countP (isPopped x)
def doneP (n : Nat) (ms : Mvs) (x : Nat) : Nat := match ms[x]? with
  | some y => if x < n ∧ y.2.over = true then 1 else 0
  | none => 0
theorem popd_set (x : Nat) : ∀ (ms : Mvs) (i : Nat) (y z : Nat × MV), ms[i]? = some y → popd (ms.set i z) x + b2n (isPopped x y) = popd ms x + b2n (isPopped x z)
  | [], i, y, z, h => by simp at h
  | a :: t, 0, y, z, h => by
    simp only [List.getElem?_cons_zero, Option.some.injEq] at h
    subst h
    simp only [List.set_cons_zero, popd, List.countP_cons, b2n]
    omega
  | a :: t, i + 1, y, z, h => by
    simp only [List.getElem?_cons_succ] at h
    have := popd_set x t i y z h
    simp only [popd] at this
    simp only [List.set_cons_succ, popd, List.countP_cons]
    omega
theorem doneP_set {n i : Nat} {ms : Mvs} {y z : Nat × MV} (h : ms[i]? = some y) (x : Nat) : doneP n (ms.set i z) x = if x = i then (if i < n ∧ z.2.over = true then 1 else 0) else doneP n ms x := by
  obtain ⟨hlt, _⟩ := List.getElem?_eq_some_iff.1 h
  unfold doneP
  rw [List.getElem?_set]
  by_cases hx : x = i
  · subst hx; simp [hlt]
  · have : ¬ i = x := fun e => hx e.symm
    simp [hx, this]
structure Inv (S : SS) (ms : Mvs) (n : Nat) : Prop where
  pu : ∀ (i : Nat) y, ms[i]? = some y → i < n → y.2.push = true ∧ y.2.place = i
  po : ∀ (i : Nat) y, ms[i]? = some y → n ≤ i → y.2.push = false
  ct : ∀ x, (if x ∈ S.L then 1 else 0) + popd ms x = doneP n ms x
theorem step_keeps (S : SS) (M : MV) : (stepE S M).2.push = M.push ∧ (stepE S M).2.place = M.place := by
  unfold stepE lookE putE takeE
  repeat' split
  all_goals exact ⟨rfl, rfl⟩
theorem set_keeps {ms : Mvs} {i m : Nat} {M M' : MV} (h : ms[i]? = some (m, M)) (h1 : M'.push = M.push) (h2 : M'.place = M.place) {φ : Nat → Bool → Nat → Prop} (hφ : ∀ (j : Nat) y, ms[j]? = some y → φ j y.2.push y.2.place) :
    ∀ (j : Nat) y, (ms.set i (m, M'))[j]? = some y → φ j y.2.push y.2.place := fun j y hy => by
  obtain ⟨hlt, _⟩ := List.getElem?_eq_some_iff.1 h
  rw [List.getElem?_set] at hy
  by_cases hij : i = j
  · rw [if_pos hij, if_pos hlt] at hy
    injection hy with hy
    subst hy
    have := hφ i _ h
    subst hij
    show φ i M'.push M'.place
    rw [h1, h2]; exact this
  · rw [if_neg hij] at hy; exact hφ j y hy
theorem Inv.step {S : SS} {ms : Mvs} {n i m : Nat} {M : MV} (v : Inv S ms n) (g : GoodS S) (gm : GoodM S M) (hi : ms[i]? = some (m, M)) : Inv (stepE S M).1 (ms.set i (m, (stepE S M).2)) n := by
  obtain ⟨k1, k2⟩ := step_keeps S M
  refine ⟨fun j y hy hj => set_keeps (φ := fun j a b => j < n → a = true ∧ b = j) hi k1 k2 (fun j y hy hj => v.pu j y hy hj) j y hy hj, fun j y hy hj => set_keeps (φ := fun j a b => n ≤ j → a = false) hi k1 k2 (fun j y hy hj => v.po j y hy hj) j y hy hj, fun x => ?_⟩
  have hp := popd_set x ms i (m, M) (m, (stepE S M).2) hi
  rw [doneP_set hi]
  have h0 := v.ct x
  have hd : doneP n ms i = if i < n ∧ M.over = true then 1 else 0 := by unfold doneP; rw [hi]
  have h0i := v.ct i
  rw [hd] at h0i
  have hpush : M.push = true → i < n := fun h => by
    rcases Nat.lt_or_ge i n with h1 | h1
    · exact h1
    · have := v.po i _ hi h1; rw [h] at this; cases this
  have hpop : M.push = false → ¬ i < n := fun h h1 => by have := (v.pu i _ hi h1).1; rw [h] at this; cases this
  by_cases ho : M.over = true
  · have e : stepE S M = (S, M) := by unfold stepE; rw [if_pos ho]
    rw [e] at hp ⊢
    simp only at hp ⊢
    have : popd (ms.set i (m, M)) x = popd ms x := by omega
    rw [this]
    by_cases hx : x = i
    · subst hx; rw [if_pos rfl, ← hd]; exact h0
    · rw [if_neg hx]; exact h0
  have ho' : M.over = false := by simpa using ho
  have hn0 : isPopped x (m, M) = false := by simp [isPopped, ho']
  rw [hn0] at hp
  simp only [ho', Bool.false_eq_true, and_false, if_false] at h0i
  by_cases hl : M.looked = false
  · have e : stepE S M = lookE S M := by unfold stepE; rw [if_neg ho, if_pos hl]
    rw [e] at hp ⊢
    have hnp : isPopped x (m, (lookE S M).2) = false := by
      by_cases hb : M.push = true
      · simp [isPopped, lookE, hb]
      · have hb' : M.push = false := by simpa using hb
        by_cases ht : topI S.L = -1
        · have : ¬ ((-1 : Int) = (x : Int)) := by omega
          simp [isPopped, lookE, hb', ht, this]
        · simp [isPopped, lookE, hb', ht]
    rw [hnp] at hp
    have hpe : popd (ms.set i (m, (lookE S M).2)) x = popd ms x := by simpa using hp
    rw [hpe]
    show (if x ∈ S.L then 1 else 0) + popd ms x = _
    by_cases hx : x = i
    · subst hx
      rw [if_pos rfl]
      have : ¬ (x < n ∧ (lookE S M).2.over = true) := fun ⟨h1, h2⟩ => by
        have hb := (v.pu x _ hi h1).1
        simp only at hb
        simp [lookE, hb] at h2
      rw [if_neg this]; omega
    · rw [if_neg hx]; exact h0
  have hl' : M.looked = true := by simpa using hl
  by_cases hb : M.push = true
  · have e : stepE S M = putE S M := by unfold stepE; rw [if_neg ho, if_neg hl, if_pos hb]
    have hin := hpush hb
    have hpl : M.place = i := (v.pu i _ hi hin).2
    have hni : i ∉ S.L := fun h => by rw [if_pos h] at h0i; omega
    rw [e] at hp ⊢
    have hnp : isPopped x (m, (putE S M).2) = false := by
      have : (putE S M).2.push = true := by rw [← e, k1, hb]
      simp [isPopped, this]
    rw [hnp] at hp
    have hpe : popd (ms.set i (m, (putE S M).2)) x = popd ms x := by simpa using hp
    rw [hpe]
    have hnp' : ¬ M.place ∈ S.L := by rw [hpl]; exact hni
    rw [if_neg hni] at h0i
    by_cases ht : M.tag = S.t
    · have e2 : putE S M = (⟨M.place :: S.L, putB S.B M.place (wordI M.top), S.t + 1, S.n + 1⟩, ⟨M.push, M.place, false, M.top, M.tag, true⟩) := by unfold putE; rw [if_neg hnp', if_pos ht]
      rw [e2]
      show (if x ∈ M.place :: S.L then 1 else 0) + popd ms x = _
      rw [hpl]
      by_cases hx : x = i
      · subst hx
        rw [if_pos (List.mem_cons_self ..), if_pos rfl, if_pos ⟨hin, rfl⟩]; omega
      · rw [if_neg hx]
        have : (x ∈ i :: S.L) ↔ x ∈ S.L := ⟨fun h => by rcases List.mem_cons.1 h with e | e; exact absurd e hx; exact e, fun h => List.mem_cons_of_mem _ h⟩
        simp only [this]; exact h0
    · have e2 : putE S M = (⟨S.L, putB S.B M.place (wordI M.top), S.t, S.n + 1⟩, ⟨M.push, M.place, false, M.top, M.tag, false⟩) := by unfold putE; rw [if_neg hnp', if_neg ht]
      rw [e2]
      show (if x ∈ S.L then 1 else 0) + popd ms x = _
      by_cases hx : x = i
      · subst hx
        rw [if_pos rfl, if_neg hni, if_neg (show ¬ (x < n ∧ false = true) from fun h => by cases h.2)]; omega
      · rw [if_neg hx]; exact h0
  · have hb' : M.push = false := by simpa using hb
    have e : stepE S M = takeE S M := by unfold stepE; rw [if_neg ho, if_neg hl, if_neg hb]
    have hin := hpop hb'
    rw [e] at hp ⊢
    have hdn : (if x = i then (if i < n ∧ (takeE S M).2.over = true then 1 else 0) else doneP n ms x) = doneP n ms x := by
      by_cases hx : x = i
      · subst hx
        rw [if_pos rfl, if_neg (fun h => hin h.1), hd, if_neg (fun h => hin h.1)]
      · rw [if_neg hx]
    rw [hdn]
    by_cases ht : M.tag = S.t
    · have e2 : takeE S M = (⟨S.L.tail, S.B, S.t + 1, S.n + 1⟩, ⟨M.push, M.place, false, M.top, M.tag, true⟩) := by unfold takeE; rw [if_pos ht]
      rw [e2] at hp ⊢
      obtain ⟨P', hP'⟩ : ∃ z, popd (ms.set i (m, (⟨M.push, M.place, false, M.top, M.tag, true⟩ : MV))) x = z := ⟨_, rfl⟩
      show (if x ∈ S.L.tail then 1 else 0) + popd (ms.set i (m, (⟨M.push, M.place, false, M.top, M.tag, true⟩ : MV))) x = _
      have hp2 : popd (ms.set i (m, (⟨M.push, M.place, false, M.top, M.tag, true⟩ : MV))) x + b2n false = popd ms x + b2n (isPopped x (m, (⟨M.push, M.place, false, M.top, M.tag, true⟩ : MV))) := hp
      rw [hP'] at hp2 ⊢
      have hat := gm.att hl' ht
      have hge := gm.po hl' hb' ho'
      cases hL : S.L with
      | nil => rw [hat, hL] at hge; simp [topI] at hge
      | cons a t =>
        rw [hL] at hat h0
        have hta : M.top = (a : Int) := hat
        have hnd := g.nd
        rw [hL] at hnd
        have hat' := (List.nodup_cons.1 hnd).1
        by_cases hx : x = a
        · subst hx
          have hip : isPopped x (m, (⟨M.push, M.place, false, M.top, M.tag, true⟩ : MV)) = true := by simp [isPopped, hb', hta]
          rw [hip] at hp2
          rw [if_pos (List.mem_cons_self ..)] at h0
          show (if x ∈ t then 1 else 0) + _ = _
          rw [if_neg hat']
          simp only [b2n, if_true, Bool.false_eq_true, if_false] at hp2
          omega
        · have hne : ¬ ((a : Int) = (x : Int)) := by omega
          have hip : isPopped x (m, (⟨M.push, M.place, false, M.top, M.tag, true⟩ : MV)) = false := by simp [isPopped, hta, hne]
          rw [hip] at hp2
          have : (x ∈ a :: t) ↔ x ∈ t := ⟨fun h => by rcases List.mem_cons.1 h with e | e; exact absurd e hx; exact e, fun h => List.mem_cons_of_mem _ h⟩
          simp only [this] at h0
          show (if x ∈ t then 1 else 0) + _ = _
          simp only [b2n, Bool.false_eq_true, if_false] at hp2
          omega
    · have e2 : takeE S M = (⟨S.L, S.B, S.t, S.n + 1⟩, ⟨M.push, M.place, false, M.top, M.tag, false⟩) := by unfold takeE; rw [if_neg ht]
      rw [e2] at hp ⊢
      obtain ⟨P', hP'⟩ : ∃ z, popd (ms.set i (m, (⟨M.push, M.place, false, M.top, M.tag, false⟩ : MV))) x = z := ⟨_, rfl⟩
      show (if x ∈ S.L then 1 else 0) + popd (ms.set i (m, (⟨M.push, M.place, false, M.top, M.tag, false⟩ : MV))) x = _
      have hp2 : popd (ms.set i (m, (⟨M.push, M.place, false, M.top, M.tag, false⟩ : MV))) x + b2n false = popd ms x + b2n (isPopped x (m, (⟨M.push, M.place, false, M.top, M.tag, false⟩ : MV))) := hp
      rw [hP'] at hp2 ⊢
      have hip : isPopped x (m, (⟨M.push, M.place, false, M.top, M.tag, false⟩ : MV)) = false := by simp [isPopped]
      rw [hip] at hp2
      simp only [b2n, Bool.false_eq_true, if_false] at hp2
      omega
/-- New moves: n pushes of 0 to n - 1, then pops. -/
def Fresh (n : Nat) (ms : Mvs) : Prop := ∀ (i : Nat) y, ms[i]? = some y → y.2 = if i < n then mPush i else mPop
theorem Fresh.nil (n : Nat) : Fresh n [] := fun i y h => by simp at h
theorem Fresh.snoc {n m : Nat} {ms : Mvs} {M : MV} (h : Fresh n ms) (hM : M = if ms.length < n then mPush ms.length else mPop) : Fresh n (ms ++ [(m, M)]) := fun i y hy => by
  rw [List.getElem?_append] at hy
  split at hy
  · exact h i y hy
  · rw [List.getElem?_singleton] at hy
    split at hy
    · injection hy with hy
      subst hy
      have : i = ms.length := by omega
      subst this; exact hM
    · cases hy
theorem Fresh.inv {n : Nat} {ms : Mvs} (h : Fresh n ms) : Inv s0 ms n := by
  have hov : ∀ (i : Nat) y, ms[i]? = some y → y.2.over = false := fun i y hy => by
    rw [h i y hy]; split <;> rfl
  refine ⟨fun i y hy hi => by rw [h i y hy, if_pos hi]; exact ⟨rfl, rfl⟩, fun i y hy hi => by rw [h i y hy, if_neg (by omega)]; rfl, fun x => ?_⟩
  have h1 : popd ms x = 0 := by
    unfold popd
    rw [List.countP_eq_zero]
    intro y hy
    obtain ⟨i, hi⟩ := List.getElem?_of_mem hy
    simp [isPopped, hov i y hi]
  have h2 : doneP n ms x = 0 := by
    unfold doneP
    split
    · rename_i y hy
      rw [hov x y hy]; simp
    · rfl
  rw [h1, h2]; rfl
theorem popd_next {ms : Mvs} {t : Nat} {y : Nat × MV} (h : ms[t]? = some y) (x : Nat) : popd (ms.take (t + 1)) x = popd (ms.take t) x + b2n (isPopped x y) := by
  unfold popd b2n
  rw [List.take_add_one, h, List.countP_append]
  simp [List.countP_cons]
theorem ids_set {ms : Mvs} {i m : Nat} {M M' : MV} (h : ms[i]? = some (m, M)) : (ms.set i (m, M')).map (·.1) = ms.map (·.1) := by
  obtain ⟨hlt, e⟩ := List.getElem?_eq_some_iff.1 h
  refine List.ext_getElem? fun j => ?_
  rw [List.getElem?_map, List.getElem?_map, List.getElem?_set]
  by_cases hij : i = j
  · subst hij; rw [if_pos rfl, if_pos hlt, h]; rfl
  · rw [if_neg hij]
end Go.Proofs.Ytgaecgijmnkdgaa.StackMath
namespace Go.Proofs.Ytgaecgijmnkdgaa
open Go.RowKit Go.Maps StackMath
set_option linter.unusedVariables false
/-- A map of counts. -/
structure CD (D : DataW Unit) (f : Nat → Nat) : Prop where
  att : ∀ x : Nat, D.atKey (.int .i64 (x : Int)) (.lit (.int .i64 0)) = .lit (.int .i64 (f x : Int))
  pos : ∀ (k c : Int), (∀ z, D.atKey (.int .i64 k) z = .lit (.int .i64 c)) → ∃ x : Nat, k = x ∧ 0 < f x
theorem cd_nil : CD (.map []) (fun _ => 0) := ⟨fun x => rfl, fun k c h => by have := h (.lit (.bool true)); cases this⟩
theorem CD.put {D : DataW Unit} {f : Nat → Nat} (h : CD D f) (hD : IsMap D) (p : Nat) {v : Int} (hv : v = ((f p + 1 : Nat) : Int)) : CD (D.put (.int .i64 (p : Int)) (.lit (.int .i64 v))) (fun x => if x = p then f x + 1 else f x) := by
  subst hv
  refine ⟨fun x => ?_, fun k c hk => ?_⟩
  · by_cases hx : x = p
    · subst hx; rw [atKey_put_same hD (by trivial)]; simp
    · rw [atKey_put_other (key_ne hx), h.att x]; simp [hx]
  · by_cases hkp : k = (p : Int)
    · exact ⟨p, hkp, by simp⟩
    · obtain ⟨x, e, hx⟩ := h.pos k c (fun z => by rw [← hk z, atKey_put_other (fun e => by injection e with _ e; exact hkp e)])
      refine ⟨x, e, ?_⟩
      have : ¬ x = p := fun e2 => hkp (by rw [e, e2])
      simp [this]; exact hx
theorem lookup_i64 {w : World} {t k e : TypeId} {P : Program} {b n : Nat} {D : DataW Unit} (h : w.ownsMap P k (plainElem P e) b n D) (K : Keyed P k) (ht : P.underlying t = some (.map k e)) (he : P.underlying e = some (.int .i64)) (hz : (zeroValue e).run P w = .ok (.int .i64 0) w)
    {key : Value} {kl : Lit} (hkey : keyOf P k key = some kl) {c : Int} (hc : D.atKey kl (.lit (.int .i64 0)) = .lit (.int .i64 c)) : (Instr.lookup t (.map (some b)) key false).run P w = .ok (.int .i64 c) w := by
  obtain ⟨v, ps, hrun, hv⟩ := h.lookup K ht hz (plainElem_int he (by decide)) hkey
  obtain ⟨x, rfl, hx, _⟩ := plainElem_int_inv he hv
  simp only [Prod.mk.injEq] at hx
  rw [hc] at hx
  have := hx.1
  injection this with this
  injection this with _ this
  rw [this]; exact hrun
theorem zeroI13 (w : World) : (zeroValue 3).run Try.prog w = .ok (.int .i64 0) w := by kernel_rfl
def ptrsOf (ids : List Nat) : List (Option Addr) := ids.map fun m => some ⟨m, 0, none⟩
theorem infoMv : (Try.prog.info? 35).map (fun i => (i.zero, i.size, i.bytes)) = some (some (.pointer none), 1, 8) := by kernel_rfl
theorem Vec.one13p (w : World) (t : TypeId) (x : Option Addr) : Vec Elem.ptrs (w.alloc (.cells #[.pointer x] t)) (.slice (some ⟨w.heap.size, 0, none⟩) 1 1) [x] :=
  Vec.row (Blk.new w t #[.pointer x]) [x] 1 (Nat.le_refl _) (by decide) (Nat.le_refl _) rfl
theorem Vec.at13p {w : World} {a : Option Addr} {n c : Nat} {ids : List Nat} (h : Seq Elem.ptrs w (.slice a n c) (ptrsOf ids)) {t m : Nat} (ht : ids[t]? = some m) : ∃ b off, a = some ⟨b, off, none⟩ ∧ w.cell? ⟨b, off + t, none⟩ = some (.pointer (some ⟨m, 0, none⟩)) := by
  obtain ⟨b, off, ea, hc⟩ := h.elem (i := t) (x := some ⟨m, 0, none⟩) (by unfold ptrsOf; rw [List.getElem?_map, ht]; rfl)
  have h0 := hc 0 (.pointer (some ⟨m, 0, none⟩)) rfl
  exact ⟨b, off, ea, by simpa [Elem.ptrs] using h0⟩
end Go.Proofs.Ytgaecgijmnkdgaa
