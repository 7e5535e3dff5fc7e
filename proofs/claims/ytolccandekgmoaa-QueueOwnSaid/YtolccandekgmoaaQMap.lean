/- Where each number stands: the map; both rows in memory; find. -/
import Derived.Test.YtolccandekgmoaaQSpots
import Derived.Test.YtolccandekgmoaaBoolMap
namespace Go.Proofs.Ytolccandekgmoaa
open Go.RowKit Go.Maps QueueMath
set_option linter.unusedVariables false

/-- How a spot's pointer reads: by its block. -/
def spElem : Value → Option (DataW Unit × List MemPlace)
  | .pointer none => some (.lit (.int .i64 (-1)), [])
  | .pointer (some ⟨b, 0, none⟩) => some (.lit (.int .i64 (b : Int)), [])
  | _ => none
theorem spElem_inv {v : Value} {k : Int} {ps : List MemPlace} (h : spElem v = some (.lit (.int .i64 k), ps)) : (k = -1 ∧ v = .pointer none) ∨ ∃ b : Nat, k = (b : Int) ∧ v = .pointer (some ⟨b, 0, none⟩) := by
  unfold spElem at h
  split at h
  · simp only [Option.some.injEq, Prod.mk.injEq, DataW.lit.injEq, Lit.int.injEq] at h
    exact .inl ⟨h.1.2.symm, rfl⟩
  · rename_i b
    simp only [Option.some.injEq, Prod.mk.injEq, DataW.lit.injEq, Lit.int.injEq] at h
    exact .inr ⟨b, h.1.2.symm, rfl⟩
  · cases h
theorem keyQ : Keyed Try.prog 3 := int_keyed Try.underlying3
theorem zeroSp (w : World) : (zeroValue 49).run Try.prog w = .ok (.pointer none) w := by kernel_rfl
abbrev nilD : DataW Unit := .lit (.int .i64 (-1))
/-- The map says where each number of l stands, and nothing of others. -/
structure AtMap (D : DataW Unit) (l : List Sp) : Prop where
  there : ∀ e ∈ l, D.atKey (.int .i64 e.1) nilD = .lit (.int .i64 (e.2 : Int))
  none : ∀ x : Int, x ∉ l.map (fun e => e.1) → D.atKey (.int .i64 x) nilD = nilD
theorem atMap_nil : AtMap (.map []) [] := ⟨fun e h => (by cases h), fun x _ => rfl⟩
theorem AtMap.perm {D : DataW Unit} {l l' : List Sp} (h : AtMap D l) (hp : l.Perm l') : AtMap D l' :=
  ⟨fun e he => h.there e (hp.mem_iff.2 he), fun x hx => h.none x fun hm => hx ((hp.map _).mem_iff.1 hm)⟩
theorem AtMap.put {D : DataW Unit} {l : List Sp} (h : AtMap D l) (hD : IsMap D) {x : Int} {k : Nat} (hx : x ∉ l.map (fun e => e.1)) : AtMap (D.put (.int .i64 x) (.lit (.int .i64 (k : Int)))) ((x, k) :: l) := by
  refine ⟨fun e he => ?_, fun y hy => ?_⟩
  · rcases List.mem_cons.1 he with rfl | he
    · exact atKey_put_same hD (by trivial) _ _
    · rw [atKey_put_other (fun hh => ?_)]
      · exact h.there e he
      · injection hh with _ hh; exact hx (by rw [← hh]; exact List.mem_map.2 ⟨e, he, rfl⟩)
  · rw [List.map_cons, List.mem_cons, not_or] at hy
    rw [atKey_put_other (fun hh => by injection hh with _ hh; exact hy.1 hh)]
    exact h.none y hy.2
theorem AtMap.del {D : DataW Unit} {l : List Sp} {x : Int} {k : Nat} (h : AtMap D ((x, k) :: l)) (hx : x ∉ l.map (fun e => e.1)) : AtMap (D.del (.int .i64 x)) l := by
  refine ⟨fun e he => ?_, fun y hy => ?_⟩
  · rw [atKey_del_other (fun hh => ?_)]
    · exact h.there e (List.mem_cons_of_mem _ he)
    · injection hh with _ hh; exact hx (by rw [← hh]; exact List.mem_map.2 ⟨e, he, rfl⟩)
  · by_cases e : y = x
    · subst e; exact atKey_del_same _
    · rw [atKey_del_other (fun hh => by injection hh with _ hh; exact e hh)]
      exact h.none y (by rw [List.map_cons, List.mem_cons, not_or]; exact ⟨e, hy⟩)
theorem size_put (D : DataW Unit) (kl : Lit) (d : DataW Unit) : Maps.size (D.put kl d) ≤ Maps.size D + 1 := by
  cases D <;> try exact Nat.le_add_right _ _
  rename_i es
  show (DataW.insert (kl, d) (es.filter fun p => !p.1.sameKey kl)).length ≤ es.length + 1
  rw [length_insert]
  exact Nat.succ_le_succ (List.length_filter_le _ _)
theorem size_del {D : DataW Unit} {kl : Lit} {z : DataW Unit} (h : D.atKey kl z ≠ z) : Maps.size (D.del kl) + 1 ≤ Maps.size D := by
  cases D <;> try exact absurd rfl h
  rename_i es
  show (es.filter fun p => !p.1.sameKey kl).length + 1 ≤ es.length
  have hex : ∃ p ∈ es, p.1.sameKey kl = true := by
    cases hf : es.find? (fun p => p.1.sameKey kl) with
    | none => exact (h (by simp only [DataW.atKey, hf])).elim
    | some p => exact ⟨p, List.mem_of_find?_eq_some hf, by simpa using List.find?_some hf⟩
  obtain ⟨p, hp, hs⟩ := hex
  have hlt : (es.filter fun p => !p.1.sameKey kl).length < es.length := by
    refine Nat.lt_of_le_of_ne (List.length_filter_le _ _) fun he => ?_
    have := List.length_filter_eq_length_iff.1 he p hp
    rw [hs] at this; cases this
  exact hlt
theorem ownsMap_tight {w : World} {P : Program} {k : TypeId} {R : Value → Option (DataW Unit × List MemPlace)} {b n m : Nat} {D : DataW Unit} (h : w.ownsMap P k R b n D) (hm : Maps.size D ≤ m) : w.ownsMap P k R b m D := by
  obtain ⟨es, clock, hb, F, hs, rfl⟩ := h
  refine ⟨es, clock, hb, F, ?_, rfl⟩
  simpa [Maps.size, length_sorted] using hm
theorem upd_turned {w w' : World} {b : Nat} (h : w.mapTurned w' b) : Upd (fun k => k = b) w w' := by
  obtain ⟨es, clock, es', clock', hb, rfl⟩ := h
  exact ⟨rfl, rfl, rfl, by simp [ChangeMaps.setBlock], fun k _ hk => ChangeMaps.heap_setBlock_other hb _ (fun e => hk e)⟩
abbrev nums (l : List Sp) : List Int := l.map fun e => e.1
/-- Both rows, and the map. -/
structure RowsAt (w : World) (rb mb : Nat) (R F : List Sp) : Prop where
  blk : Blk w rb 53 #[.pointer (fstP R none), .pointer (lstP R none), .pointer (fstP F none), .pointer (lstP F none), .map (some mb)]
  sr : SegP w ⟨rb, 0, none⟩ none R none
  sf : SegP w ⟨rb, 2, none⟩ none F none
  mp : ∃ D, w.ownsMap Try.prog 3 spElem mb (R ++ F).length D ∧ AtMap D (R ++ F)
  nd : (blks (R ++ F)).Nodup
  nn : (nums (R ++ F)).Nodup
  ne : ∀ e ∈ R ++ F, e.2 ≠ rb ∧ e.2 ≠ mb ∧ e.2 < w.heap.size
  nm : mb ≠ rb
  i64 : ∀ e ∈ R ++ F, I64 e.1
section
variable {w w' : World} {rb mb : Nat} {R F : List Sp}
theorem RowsAt.upd {S : Nat → Prop} (h : RowsAt w rb mb R F) (u : Upd S w w') (h1 : ¬ S rb) (h2 : ¬ S mb) (h3 : ∀ e ∈ R ++ F, ¬ S e.2) : RowsAt w' rb mb R F := by
  obtain ⟨D, hD, hA⟩ := h.mp
  exact ⟨h.blk.upd u h1, h.sr.upd u fun e he => h3 e (List.mem_append_left _ he), h.sf.upd u fun e he => h3 e (List.mem_append_right _ he), ⟨D, ownsMap_upd hD u h2, hA⟩, h.nd, h.nn, fun e he => ⟨(h.ne e he).1, (h.ne e he).2.1, Nat.lt_of_lt_of_le (h.ne e he).2.2 u.size⟩, h.nm, h.i64⟩
theorem RowsAt.mlt (h : RowsAt w rb mb R F) : mb < w.heap.size := by obtain ⟨D, hD, _⟩ := h.mp; exact hD.lt
end
/-- Both rows, of which numbers they are; O: a set that all their blocks lie in. -/
def RwsN (w : World) (rb : Nat) (O : Nat → Prop) (S : QR) : Prop := ∃ mb R F, RowsAt w rb mb R F ∧ S = ⟨nums R, nums F⟩ ∧ O rb ∧ O mb ∧ ∀ e ∈ R ++ F, O e.2
theorem RwsN.upd {w w' : World} {rb : Nat} {O S' : Nat → Prop} {S : QR} (h : RwsN w rb O S) (u : Upd S' w w') (hs : ∀ k, S' k → ¬ O k) : RwsN w' rb O S := by
  obtain ⟨mb, R, F, h, rfl, h1, h2, h3⟩ := h
  exact ⟨mb, R, F, h.upd u (fun x => hs _ x h1) (fun x => hs _ x h2) (fun e he x => hs _ x (h3 e he)), rfl, h1, h2, h3⟩
theorem RwsN.mono {w : World} {rb : Nat} {O O' : Nat → Prop} {S : QR} (h : RwsN w rb O S) (hO : ∀ k, O k → O' k) : RwsN w rb O' S := by
  obtain ⟨mb, R, F, h, rfl, h1, h2, h3⟩ := h
  exact ⟨mb, R, F, h, rfl, hO _ h1, hO _ h2, fun e he => hO _ (h3 e he)⟩
theorem nums_all (R F : List Sp) : QR.all ⟨nums R, nums F⟩ = nums (R ++ F) := (List.map_append ..).symm
set_option maxRecDepth 100000 in
theorem find_nil (w : World) (x : Int) : Calls Try.prog 33 #[.pointer none, .int .i64 x] w fun e w' => e = .returned (.pointer none) ∧ w = w' := by
  go_enter Try.func33, Try.ntmps33
  go_wp2
  go_ret
  exact ⟨rfl, rfl⟩
set_option maxRecDepth 100000 in
set_option maxHeartbeats 1000000 in
theorem find_rows {w : World} {rb mb : Nat} {R F : List Sp} (h : RowsAt w rb mb R F) {x : Int} (hx : I64 x) :
    Calls Try.prog 33 #[.pointer (some ⟨rb, 0, none⟩), .int .i64 x] w fun e w' => (∃ s, e = .returned (.pointer s) ∧ ((s = none ∧ x ∉ nums (R ++ F)) ∨ ∃ k, s = some ⟨k, 0, none⟩ ∧ (x, k) ∈ R ++ F)) ∧ w = w' := by
  obtain ⟨D, hD, hA⟩ := h.mp
  have c4 : w.cell? ⟨rb, 4, none⟩ = some (.map (some mb)) := h.blk.cell 4
  have hl : ∃ s, (∀ w2, w2 = w → (Instr.lookup 48 (.map (some mb)) (.int .i64 x) false).run Try.prog w2 = .ok (.pointer s) w2) ∧ ((s = none ∧ x ∉ nums (R ++ F)) ∨ ∃ k, s = some ⟨k, 0, none⟩ ∧ (x, k) ∈ R ++ F) := by
    obtain ⟨v, ps, hrun, hv⟩ := hD.lookup keyQ Try.underlying48 (zeroSp w) (show spElem (.pointer none) = some (nilD, []) from rfl) (show keyOf Try.prog 3 (.int .i64 x) = some (.int .i64 x) from keyOf_int_mk Try.underlying3 hx.wf)
    by_cases hm : x ∈ nums (R ++ F)
    · obtain ⟨⟨x', k⟩, he, rfl⟩ := List.mem_map.1 hm
      rw [hA.there _ he] at hv
      rcases spElem_inv hv with ⟨h1, _⟩ | ⟨b, h1, rfl⟩
      · simp only at h1; omega
      · have h1' : (k : Int) = (b : Int) := h1
        obtain rfl : k = b := by omega
        exact ⟨_, fun w2 e => by rw [e]; exact hrun, .inr ⟨k, rfl, he⟩⟩
    · rw [hA.none x hm] at hv
      rcases spElem_inv hv with ⟨_, rfl⟩ | ⟨b, h1, _⟩
      · exact ⟨_, fun w2 e => by rw [e]; exact hrun, .inl ⟨rfl, hm⟩⟩
      · omega
  obtain ⟨s, hrun, hs⟩ := hl
  have hr := hrun w rfl
  have HS := Lib.hid hs
  clear hrun hs h hD hA
  go_enter Try.func33, Try.ntmps33
  go_wp2
  go_ret
  exact ⟨⟨s, rfl, HS.out⟩, rfl⟩
end Go.Proofs.Ytolccandekgmoaa
