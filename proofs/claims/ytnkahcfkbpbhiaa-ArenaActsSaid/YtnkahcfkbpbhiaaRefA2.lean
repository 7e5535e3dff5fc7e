/- The document's own arena (allotmentref04): Release: contract. -/
import Derived.Test.YtnkahcfkbpbhiaaRefA1
import Derived.Deep.RegionLaw
import Derived.RegionTactic
namespace Go.Proofs.Ytnkahcfkbpbhiaa
open Go.RowKit ArenaMath
set_option linter.unusedVariables false

theorem infoR4 : (Try.prog.info? 67).map (fun i => (i.zero, i.size, i.bytes)) = some (some (.agg #[.int .i64 0, .int .i64 0]), 2, 16) := by kernel_rfl
theorem sizeR4 (w : World) : (sizeOf (Try.prog.elem 40)).run Try.prog w = .ok Elem.pairs.size w := by kernel_rfl
section
variable {w w' : World} {h : Nat} {s : St} {lv tv : Value}
def Finding (w : World) (v : Value) (l : List (Nat × Nat)) (a : Int) (i : Value) (wr : World) : Prop :=
  ∃ j : Nat, j ≤ l.length ∧ i = .int .i64 (j : Int) ∧ (∀ k x, k < j → l[k]? = some x → (x.1 : Int) ≠ a) ∧ Below w.heap.size w wr
theorem ref_release_no (r : RefIs w h s lv tv) (hg : ArenaMath.Good s) (a : Int) (hn : ∀ x ∈ s.l, (x.1 : Int) ≠ a) :
    Calls Try.prog 13 #[.pointer (some ⟨h, 0, none⟩), .int .i64 a] w fun e w' => e = .returned (.int .i64 5) ∧ Below w.heap.size w w' := by
  have c3 := r.c3
  obtain ⟨la, lcap, rfl, _, _⟩ := r.list.shape
  have R := Lib.hid r
  have hll : s.l.length ≤ 64 := by have := length_le_total hg.ok; have := hg.sum; have := hg.lim; have := hg.S2; omega
  have HN := Lib.hid hn
  have OK := Lib.hid hg.ok
  have hS := hg.S2
  obtain ⟨n, hnn⟩ : ∃ n, s.l.length = n := ⟨_, rfl⟩
  have HNN := Lib.hid hnn
  rw [hnn] at hll c3
  have R' : Hid (Seq Elem.pairs w (.slice la n lcap) s.l) := Lib.hid (by rw [← hnn]; exact r.list.seq)
  clear r hg hn hnn
  go_enter Try.func13, Try.ntmps13
  go_wp2
  go_loopw [12] (fun i wr => Finding w (.slice la n lcap) s.l a i wr) (fun i _ => n - (intOf i).toNat)
  case atStart => exact ⟨0, Nat.zero_le _, rfl, fun k x hk => by omega, Below.refl _ _⟩
  case round =>
    obtain ⟨j, hj, rfl, hno, hb⟩ := hrel
    have B2 := Lib.hid hb; have NO := Lib.hid hno
    have sr := hb.size
    rw [HNN.out] at hj
    clear hb hno
    by_cases hjl : j < n
    · obtain ⟨⟨y1, y2⟩, hy⟩ : ∃ x, s.l[j]? = some x := ⟨s.l[j]'(by rw [HNN.out]; exact hjl), List.getElem?_eq_getElem _⟩
      obtain ⟨b2, off2, rfl, hcell⟩ := (R'.out.below (Nat.le_refl _) B2.out).elem hy
      have d0 := hcell 0 (.int .i64 (y1 : Int)) rfl
      have d1 := hcell 1 (.int .i64 (y2 : Int)) rfl
      simp only [Elem.pairs, Nat.add_zero] at d0 d1
      have hym := OK.out.2 (y1, y2) (List.mem_of_getElem? hy)
      simp only at hym
      have hy1 : y1 ≤ 64 := by omega
      have hy2 : y2 ≤ 64 := by omega
      have hne := HN.out (y1, y2) (List.mem_of_getElem? hy)
      simp only at hne
      have t1 : ((y1 : Int) == a) = false := by rw [beq_eq_false_iff_ne]; exact hne
      have HY := Lib.hid hy
      have HE := Lib.hid hne
      clear hcell hym hy hne
      go_wp2
      go_roundw
      case rel => exact ⟨j + 1, by rw [HNN.out]; omega, by go_num, (fun k x hk hx => by
        rcases Nat.lt_or_ge k j with h | h
        · exact NO.out k x h hx
        · obtain rfl : k = j := by omega
          rw [HY.out] at hx
          injection hx with hx
          subst hx
          exact HE.out), B2.out.alloc sr _⟩
      case measure => simp [intOf]; omega
    · obtain rfl : j = n := by omega
      go_wp2
      go_ret
      exact ⟨rfl, B2.out⟩

set_option maxHeartbeats 2000000 in
theorem ref_release_yes (r : RefIs w h s lv tv) (hg : ArenaMath.Good s) (a m : Nat) (hm : (a, m) ∈ s.l) :
    Calls Try.prog 13 #[.pointer (some ⟨h, 0, none⟩), .int .i64 (a : Int)] w fun e w' => e = .returned (.int .i64 0) ∧ RefTo w h lv tv { s with l := del s.l a } w' := by
  obtain ⟨i0, hi, hz0, hz1, hz2⟩ := info_parts infoR4
  have c3 := r.c3
  obtain ⟨la, lcap, rfl, hlc, hlm⟩ := r.list.shape
  have R := Lib.hid r
  have hll : s.l.length ≤ 64 := by have := length_le_total hg.ok; have := hg.sum; have := hg.lim; have := hg.S2; omega
  have HM := Lib.hid hm
  have OK := Lib.hid hg.ok
  have hS := hg.S2
  obtain ⟨n, hnn⟩ : ∃ n, s.l.length = n := ⟨_, rfl⟩
  have HNN := Lib.hid hnn
  rw [hnn] at hll c3 hlc
  have R' : Hid (Seq Elem.pairs w (.slice la n lcap) s.l) := Lib.hid (by rw [← hnn]; exact r.list.seq)
  clear r hg hm hnn
  go_enter Try.func13, Try.ntmps13
  go_wp2
  go_loopw [12] (fun i wr => Finding w (.slice la n lcap) s.l (a : Int) i wr) (fun i _ => n - (intOf i).toNat)
  case atStart => exact ⟨0, Nat.zero_le _, rfl, fun k x hk => by omega, Below.refl _ _⟩
  case round =>
    obtain ⟨j, hj, rfl, hno, hb⟩ := hrel
    have B2 := Lib.hid hb; have NO := Lib.hid hno
    have sr := hb.size
    rw [HNN.out] at hj
    clear hb hno
    by_cases hjl : j < n
    · obtain ⟨⟨y1, y2⟩, hy⟩ : ∃ x, s.l[j]? = some x := ⟨s.l[j]'(by rw [HNN.out]; exact hjl), List.getElem?_eq_getElem _⟩
      obtain ⟨b2, off2, rfl, hcell⟩ := (R'.out.below (Nat.le_refl _) B2.out).elem hy
      have d0 := hcell 0 (.int .i64 (y1 : Int)) rfl
      have d1 := hcell 1 (.int .i64 (y2 : Int)) rfl
      simp only [Elem.pairs, Nat.add_zero] at d0 d1
      have hym := OK.out.2 (y1, y2) (List.mem_of_getElem? hy)
      simp only at hym
      have hy1 : y1 ≤ 64 := by omega
      have hy2 : y2 ≤ 64 := by omega
      have HY := Lib.hid hy
      clear hcell hym hy
      by_cases he : y1 = a
      · subst he
        have t1 : ((y1 : Int) == (y1 : Int)) = true := by simp
        have hsplit : s.l = s.l.take j ++ (y1, y2) :: s.l.drop (j + 1) := by
          obtain ⟨hj2, e⟩ := List.getElem?_eq_some_iff.1 HY.out
          rw [← e, List.getElem_cons_drop, List.take_append_drop]
        have hdel : del s.l y1 = s.l.take j ++ s.l.drop (j + 1) := by
          have ho := OK.out
          rw [hsplit] at ho
          have := del_split ho
          rwa [← hsplit] at this
        have HD := Lib.hid hdel
        obtain ⟨sv1, hs1, hi1, hq1⟩ := cut_to (E := Elem.pairs) (P := Try.prog) 40 Try.underlying40 sizeR4 (some ⟨b2, off2, none⟩) n lcap j (by omega)
        obtain ⟨sv2, hs2, hi2, hq2, _⟩ := cut_from (E := Elem.pairs) (P := Try.prog) 40 Try.underlying40 sizeR4 (some ⟨b2, off2, none⟩) n lcap (j + 1) (by omega) hlc
        rw [show ((j + 1 : Nat) : Int) = (j : Int) + 1 by omega] at hs2
        have hwj : IntKind.i64.wrap ((j : Int) + 1) = (j : Int) + 1 := IntWalk.i64_in _ ⟨by omega, by omega⟩
        have len1 : (s.l.take j).length ≤ 64 := by rw [List.length_take, HNN.out]; omega
        have len2 : (s.l.drop (j + 1)).length ≤ 64 := by rw [List.length_drop, HNN.out]; omega
        obtain ⟨W, hW⟩ : ∃ W, wr.alloc (.cells #[.int .i64 (y1 : Int), .int .i64 (y2 : Int)] 67) = W := ⟨_, rfl⟩
        have hWb : Below w.heap.size w W := by rw [← hW]; exact B2.out.alloc sr _
        have hWs := hWb.size
        have xb0 : W.cell? ⟨wr.heap.size, 0, none⟩ = some (.int .i64 (y1 : Int)) := by rw [← hW]; exact (Blk.new wr _ _).cell 0
        have SQ : Hid (∀ w', Below w.heap.size w w' → Seq Elem.pairs w' sv1 (s.l.take j) ∧ Seq Elem.pairs w' sv2 (s.l.drop (j + 1)) ∧ w'.cell? ⟨h, 3, none⟩ = some (.slice (some ⟨b2, off2, none⟩) n lcap) ∧ w'.frozen? ⟨h, 3, none⟩ = false) :=
          Lib.hid fun w' hb => by
            have q := R'.out.below (Nat.le_refl _) hb
            have r2 := R.out.grew hb
            exact ⟨hq1 _ _ q (by omega), hq2 _ _ q, by have := r2.c3; rwa [HNN.out] at this, r2.head.frozen 3⟩
        have WB := Lib.hid hWb
        have x3 := (SQ.out _ hWb).2.2.1
        have x3a := (SQ.out _ (hWb.alloc hWs (.cells #[] 67))).2.2.1
        have HWW := Lib.hid hW
        clear hdel hsplit hi1 hq1 hi2 hq2 hWb
        go_wp2_with fail
        clear hW xb0
        go_region_law (first
          | (refine step_append_vec (E := Elem.pairs) rfl (.tmp 22) (.tmp 28) 40 rfl 67 i0 (.agg #[.int .i64 0, .int .i64 0]) 16 Try.underlying40 hi hz0 hz1 hz2 rfl (.slice (some ⟨W.heap.size, 0, none⟩) 0 0) sv1 [] (s.l.take j) ?_ ?_ ?_ ?_ ?_ ?_ ?_
             · go_simp
             · go_simp
             · first | exact Vec.newAt W _ _ rfl | exact (Vec.newAt W _ _ rfl).drew | exact Vec.newAt W.drew _ _ rfl
             · first | exact (SQ.out _ (WB.out.alloc hWs _)).1 | exact (SQ.out _ (WB.out.alloc hWs _).drew).1 | exact (SQ.out _ (WB.out.drew.alloc hWs _)).1
             · simp only [maxLen, List.length_nil]; omega
             · simp only [List.length_nil]; omega
             intro v1 w1 hv1 hu1 hin1
             have B1 : Hid (Below w.heap.size w w1) := Lib.hid (by
               refine Below.trans ?_ (hu1.below (B := w.heap.size) (fun k hk => by have := in_at hk; omega) ?_)
               · first | exact WB.out.alloc hWs _ | exact (WB.out.alloc hWs _).drew | exact WB.out.drew.alloc hWs _
               · first | exact (WB.out.alloc hWs _).size | exact (WB.out.drew.alloc hWs _).size)
             have N1 : Hid (∀ k, In v1 k → w.heap.size ≤ k) := Lib.hid (fun k hk => by rcases hin1 k hk with x | x; (have := in_at x; omega); (simp at x; omega))
             have V1 := Lib.hid hv1
             have x3b := (SQ.out _ B1.out).2.2.1
             clear hv1 hu1 hin1)
          | (refine step_append_vec (E := Elem.pairs) rfl (.tmp 29) (.tmp 36) 40 rfl 67 i0 (.agg #[.int .i64 0, .int .i64 0]) 16 Try.underlying40 hi hz0 hz1 hz2 rfl v1 sv2 ([] ++ s.l.take j) (s.l.drop (j + 1)) ?_ ?_ V1.out (SQ.out _ B1.out).2.1 ?_ ?_ ?_
             · go_simp
             · go_simp
             · simp only [maxLen, List.nil_append]; omega
             · simp only [List.nil_append]; omega
             intro v2 w2 hv2 hu2 hin2
             obtain ⟨a2, n2, cap2, rfl⟩ := hv2.is
             have B3 := Lib.hid (below_in B1.out B1.out.size N1.out hu2)
             have V2 := Lib.hid hv2
             have N2 : Hid (∀ k, In (.slice a2 n2 cap2) k → w.heap.size ≤ k) := Lib.hid (fun k hk => by rcases hin2 k hk with x | x; exact N1.out k x; exact Nat.le_trans B1.out.size x)
             have x3c := (SQ.out _ B3.out).2.2.1
             have f3c := (SQ.out _ B3.out).2.2.2
             clear hv2 hu2 hin2))
        all_goals
          clear x3 x3a hs1 hs2 hwj t1
          go_wp2
          go_ret
          have hlt := R.out.head.lt
          have r2 := R.out.grew B3.out
          have hu := upd_cell w2 h 3 (.slice a2 n2 cap2)
          have hne : ∀ k, In (.slice a2 n2 cap2) k → k ≠ h := fun k hk e => by have := N2.out k hk; omega
          refine ⟨rfl, ⟨_, tv, ⟨r2.head.put 3 _, ?_, r2.told.upd hu (fun k hk e => r2.nt (e ▸ hk)), fun hk => hne h hk rfl, r2.nt⟩, fun k hk => .inr (N2.out k hk), fun k hk => .inl hk⟩, ((updFalse_of B3.out).mono (fun k hk => hk.elim)).trans hu⟩
          have := V2.out.upd hu hne
          rw [List.nil_append, ← HD.out] at this
          exact this
      · have t1 : ((y1 : Int) == (a : Int)) = false := by rw [beq_eq_false_iff_ne]; omega
        have HE := Lib.hid he
        clear he
        go_wp2
        go_roundw
        case rel => exact ⟨j + 1, by rw [HNN.out]; omega, by go_num, (fun k x hk hx => by
          rcases Nat.lt_or_ge k j with h | h
          · exact NO.out k x h hx
          · obtain rfl : k = j := by omega
            rw [HY.out] at hx
            injection hx with hx
            subst hx
            have := HE.out
            simp only; omega), B2.out.alloc sr _⟩
        case measure => simp [intOf]; omega
    · exfalso
      obtain ⟨k, hk⟩ := List.getElem?_of_mem HM.out
      have hkl : k < s.l.length := (List.getElem?_eq_some_iff.1 hk).1
      have := HNN.out
      exact NO.out k _ (by omega) hk rfl
end
end Go.Proofs.Ytnkahcfkbpbhiaa
