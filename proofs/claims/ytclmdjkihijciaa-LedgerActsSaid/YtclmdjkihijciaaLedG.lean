/- slices.Delete of one entry: contract. -/
import Derived.Test.YtclmdjkihijciaaLedF
namespace Go.Proofs.Ytclmdjkihijciaa
open Go.RowKit LedMath
set_option linter.unusedVariables false

section
variable {P : Program}
theorem step_append_of {ops : Array Oper} {o : Oper} {a : Act} {w : World} {K : Act → World → Prop} {Q : Exit → Act → World → Prop} {E : Prop}
    (hg : o.guard = none) (d x : Operand) (dT sT : TypeId) (hop : o.op = Op.call { callee := Callee.builtin Builtin.append, args := #[d, x], argTypes := #[dT, sT] })
    (v u : Value) (hd : a.eval d = v) (hx : a.eval x = u) {v' : Value} {w' : World} (hr : (Builtin.append_ #[dT, sT] o.type #[v, u]).run P w = .ok v' w') (hK : K (a.put o.dst v') w') :
    if Region.wanted o (yielded ops a.tmps) = true then Oper.wp P o a w K Q else E := by
  have hw : Region.wanted o (yielded ops a.tmps) = true := by simp [Region.wanted, hg]
  rw [if_pos hw]
  unfold Oper.wp execOp
  simp only [hop, resolve, invoke, builtin, Sem.run_bind, Sem.run_pure, Result.andThen_ok, List.map_toArray, List.map_cons, List.map_nil, hd, hx, hr]
  exact hK
end
abbrev zeroE : List Value := [.int .u64 0, .int .u64 0, .int .u64 0, .bool false]
theorem clear_one (w : World) (ty : TypeId) (b o c : Nat) (hc : ∀ j, j < 4 → (w.cell? ⟨b, o + j, none⟩).isSome = true) (hf : ∀ j, j < 4 → w.frozen? ⟨b, o + j, none⟩ = false) :
    (Builtin.clear_ #[52] ty #[.slice (some ⟨b, o, none⟩) 1 c]).run Try.prog w = .ok (.tuple #[]) (w.setCells b o zeroE) := by
  have hv : (zeroValue 54).run Try.prog w = .ok (.agg #[.int .u64 0, .int .u64 0, .int .u64 0, .bool false]) w := by kernel_rfl
  have hst := run_storeCells_cells (P := Try.prog) b o zeroE 0 w (by simpa using hc) (by simpa using hf) (by intro v hv'; simp only [zeroE, List.mem_cons, List.not_mem_nil, or_false] at hv'; rcases hv' with rfl | rfl | rfl | rfl <;> rfl)
  simp only [Nat.add_zero] at hst
  have hzc : (Builtin.zeroCells (Value.agg #[.int .u64 0, .int .u64 0, .int .u64 0, .bool false]).cells 1).toList = zeroE := by kernel_rfl
  simp [Builtin.clear_, run_underlying Try.underlying52, hv, hzc, hst]
set_option maxHeartbeats 4000000 in
set_option maxRecDepth 100000 in
theorem delete_any (w : World) {v : Value} {i : Nat} {l : List En} (hv : Vec Elem.ents w v l) (hi : i < l.length) (hl : l.length ≤ 1048576) :
    Calls Try.prog 35 #[v, .int .i64 (i : Int), .int .i64 ((i : Int) + 1)] w fun r w' =>
      ∃ v', r = .returned v' ∧ Vec Elem.ents w' v' (l.take i ++ l.drop (i + 1)) ∧ Upd (In v) w w' ∧ ∀ k, In v' k → In v k := by
  rcases hv with ⟨rfl, rfl⟩ | ⟨g, off, cap, rfl, hg, hlc, hcap, hcells, hspare⟩
  · simp at hi
  obtain ⟨m, hN⟩ : ∃ m, l.length = m + 1 := ⟨l.length - 1, by omega⟩
  obtain ⟨i0, hinf, hz0, hz1, hz2⟩ := info_parts infoE
  rw [hN] at hi hl hlc ⊢
  have hsp : ∀ j, j < (m + 1) * 4 → (w.cell? ⟨g, off + j, none⟩).isSome = true := fun j hj => (hspare j (by have := Nat.mul_le_mul_right 4 hlc; show j < cap * 4; omega)).1
  have hfz : ∀ j, j < (m + 1) * 4 → w.frozen? ⟨g, off + j, none⟩ = false := fun j hj => (hspare j (by have := Nat.mul_le_mul_right 4 hlc; show j < cap * 4; omega)).2
  have hdl : (l.drop (i + 1)).length = m - i := by rw [List.length_drop, hN]; omega
  have hal : (Elem.ents.all (l.drop (i + 1))).length = (m - i) * 4 := by rw [Elem.length_all, hdl]; rfl
  have hseq : Seq Elem.ents w (.slice (some ⟨g, off, none⟩) (m + 1) cap) l := by rw [← hN]; exact .inl ⟨g, off, cap, rfl, hcells⟩
  obtain ⟨sv, hsl, _, hsv, _⟩ := cut_from (E := Elem.ents) (P := Try.prog) 52 Try.underlying52 (fun w => sizeOfE w) (some ⟨g, off, none⟩) (m + 1) cap (i + 1) (by omega) hlc
  rw [show ((i + 1 : Nat) : Int) = (i : Int) + 1 by omega] at hsl
  have hsrc := Seq.src (P := Try.prog) Try.underlying52 (show Seq Elem.ents w.drew sv (l.drop (i + 1)) from hsv w l hseq)
  rw [hdl] at hsrc
  have hap : ∀ ty, (Builtin.append_ #[52, 52] ty #[.slice (some ⟨g, off, none⟩) i cap, sv]).run Try.prog w.drew = .ok (.slice (some ⟨g, off, none⟩) m cap) (w.drew.setCells g (off + i * 4) (Elem.ents.all (l.drop (i + 1)))) := fun ty => by
    have hr := run_append_room_src (P := Try.prog) (w := w.drew) 52 52 ty 54 i0 Try.underlying52 hinf g off i cap sv (m - i) (Elem.ents.all (l.drop (i + 1))) (by rw [hz1]; exact hsrc) (by omega)
      (fun j hj => by rw [hz1, Nat.add_assoc]; exact hsp _ (by omega)) (fun j hj => by rw [hz1, Nat.add_assoc]; exact hfz _ (by omega))
    rw [hz1, show i + (m - i) = m by omega] at hr
    exact hr
  obtain ⟨W1, hW1⟩ : ∃ W1, w.drew.setCells g (off + i * 4) (Elem.ents.all (l.drop (i + 1))) = W1 := ⟨_, rfl⟩
  rw [hW1] at hap
  have u1 : Upd (fun k => k = g) w W1 := by rw [← hW1]; exact (Upd.refl _ w).drew.trans (upd_setCells g _ _ _)
  have hs1 : ∀ j, j < cap * 4 → (W1.cell? ⟨g, off + j, none⟩).isSome = true ∧ W1.frozen? ⟨g, off + j, none⟩ = false := fun j hj => by
    rw [← hW1]
    exact ⟨World.isSome_setCells g _ _ _ _ (hspare j hj).1, by rw [World.frozen?_setCells]; exact (hspare j hj).2⟩
  have hm4 : m * 4 + 4 ≤ cap * 4 := by have := Nat.mul_le_mul_right 4 hlc; omega
  have hcl : ∀ ty c, (Builtin.clear_ #[52] ty #[.slice (some ⟨g, off + m * 4, none⟩) 1 c]).run Try.prog W1 = .ok (.tuple #[]) (W1.setCells g (off + m * 4) zeroE) := fun ty c =>
    clear_one W1 ty g (off + m * 4) c (fun j hj => by rw [Nat.add_assoc]; exact (hs1 _ (by omega)).1) (fun j hj => by rw [Nat.add_assoc]; exact (hs1 _ (by omega)).2)
  have FIN : Hid (∀ W2, W2 = W1.setCells g (off + m * 4) zeroE → Vec Elem.ents W2 (.slice (some ⟨g, off, none⟩) m cap) (l.take i ++ l.drop (i + 1)) ∧ Upd (fun k => k = g) w W2) := Lib.hid fun W2 hW2 => by
    have u2 : Upd (fun k => k = g) w W2 := by rw [hW2]; exact u1.trans (upd_setCells g _ _ _)
    have htl : (Elem.ents.all (l.take i)).length = i * 4 := by rw [Elem.length_all, List.length_take, hN, Nat.min_eq_left (by omega)]; rfl
    have hlen : (l.take i ++ l.drop (i + 1)).length = m := by rw [List.length_append, hdl, List.length_take, hN]; omega
    have hin1 : ∀ j, j < (Elem.ents.all (l.drop (i + 1))).length → (w.drew.cell? ⟨g, off + i * 4 + j, none⟩).isSome = true := fun j hj => by rw [Nat.add_assoc]; exact hsp _ (by omega)
    refine ⟨.inr ⟨g, off, cap, by rw [hlen], Nat.lt_of_lt_of_le hg u2.size, by rw [hlen]; omega, hcap, fun j u hj => ?_, fun j hj => ⟨?_, ?_⟩⟩, u2⟩
    · rw [Elem.all_append] at hj
      have hjm : j < m * 4 := by
        have := (List.getElem?_eq_some_iff.1 hj).1
        rw [List.length_append, htl, hal] at this; omega
      rw [hW2, World.cell?_setCells_out g _ _ _ _ (fun _ _ => .inl (by simp only; omega)), ← hW1]
      by_cases h1 : j < i * 4
      · rw [List.getElem?_append_left (by rw [htl]; exact h1), Elem.all_take] at hj
        have hj : (List.take (i * 4) (Elem.ents.all l))[j]? = some u := hj
        rw [List.getElem?_take_of_lt h1] at hj
        rw [World.cell?_setCells_out g _ _ _ _ (fun _ _ => .inl (by simp only; omega))]
        exact hcells j u hj
      · rw [List.getElem?_append_right (by rw [htl]; omega), htl] at hj
        obtain ⟨hjl, hju⟩ := List.getElem?_eq_some_iff.1 hj
        have := World.cell?_setCells_in g (Elem.ents.all (l.drop (i + 1))) (off + i * 4) w.drew hin1 (j - i * 4) hjl
        rw [hju] at this
        rw [← this]
        congr 2
        omega
    · rw [hW2]; exact World.isSome_setCells g _ _ _ _ (hs1 j hj).1
    · rw [hW2, World.frozen?_setCells]; exact (hs1 j hj).2
  have hc63 : cap ≤ 9223372036854775807 := by simp only [maxLen] at hcap; omega
  have q1 : ¬ ((i : Int) = (i : Int) + 1) := by omega
  have q2 : ¬ (m + 1 = i) := by omega
  have q3 : ¬ (cap = m) := by omega
  have q4 : ¬ (cap = i) := by omega
  have q5 : (i : Int) + 1 ≤ (m : Int) + 1 := by omega
  have q6 : (0 : Int) ≤ (i : Int) + 1 := by omega
  have q7 : (i : Int) ≤ (i : Int) + 1 := by omega
  have q8 : (m : Int) + 1 ≤ (cap : Int) := by omega
  have q9 : i ≤ cap := by omega
  have t1 : ((i : Int) + 1).toNat = i + 1 := by omega
  have t2 : ((m : Int) + 1).toNat = m + 1 := by omega
  have hcl' := hcl
  have AP := Lib.hid hap
  have CL := Lib.hid hcl
  clear hap hcl hcells hspare hsp hfz hseq hsv hsrc u1 hs1 hW1 hal hdl hN hz0 hz1 hz2 hinf hcl'
  go_enter Try.func35, Try.ntmps35
  go_wp2
  go_region_law (refine step_append_of rfl _ _ 52 52 rfl (.slice (some ⟨g, off, none⟩) i cap) sv ?_ ?_ (AP.out _) ?_; go_simp; go_simp)
  have cl := CL.out
  go_wp2
  go_ret
  obtain ⟨f1, f2⟩ := FIN.out _ rfl
  exact ⟨_, rfl, f1, f2.mono (fun k hk => by subst hk; rfl), fun k hk => hk⟩
end Go.Proofs.Ytclmdjkihijciaa
