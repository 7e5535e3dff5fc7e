/- The law ListRefuses, walked. -/
import Derived.Test.YtmnnmgphiiedgaaList7
namespace Go.Proofs.Ytmnnmgphiiedgaa.listRefuses
open Go.RowKit ListMath
set_option linter.unusedVariables false

theorem pushN_app : ∀ (l m : List Nat) (s : LS), (pushN s l).2 = 0 → pushN s (l ++ m) = pushN (pushN s l).1 m
  | [], m, s, _ => rfl
  | a :: t, m, s, h => by
    by_cases h1 : (push1 s a).2 = 0
    · have e1 : pushN s (a :: t) = pushN (push1 s a).1 t := by show (if _ then _ else _) = _; rw [if_pos h1]
      have e2 : pushN s (a :: t ++ m) = pushN (push1 s a).1 (t ++ m) := by rw [List.cons_append]; show (if _ then _ else _) = _; rw [if_pos h1]
      rw [e1] at h ⊢
      rw [e2]
      exact pushN_app t m _ h
    · have e1 : pushN s (a :: t) = push1 s a := by show (if _ then _ else _) = _; rw [if_neg h1]
      rw [e1] at h
      exact absurd h h1
theorem pushN_stop (s : LS) (a : Nat) (m : List Nat) (h : (push1 s a).2 ≠ 0) : pushN s (a :: m) = push1 s a := by
  show (if _ then _ else _) = _; rw [if_neg h]
theorem u64_bd {n : Int} (h : (Lit.int .u64 n).wf = true) : 0 ≤ n ∧ n ≤ 18446744073709551615 := by
  simp [Lit.wf, IntKind.min, IntKind.max, IntKind.signed, IntKind.bits] at h; omega
set_option maxRecDepth 100000 in
set_option maxHeartbeats 4000000 in
theorem walk_of (w : World) (C : Li w) {a : Option Addr} {nn cap : Nat} (l : List Int) (h : NumsAt w .u8 (.slice a nn cap) l) (bad : Int) (hbw : (Lit.int .u64 bad).wf = true) {ma : Option Addr} {mn mcap : Nat} (ml : List Int) (hml : NumsAt w .u8 (.slice ma mn mcap) ml) :
    Calls Try.prog 7 #[.slice a nn cap, .int .u64 bad, .slice ma mn mcap] w fun e w' => e = .returned (.bool true) ∧ Below w.heap.size w w' := by
  obtain ⟨i0, hi, hz0, hz1, hz2⟩ := info_parts infoU
  obtain ⟨L, hB⟩ := h.bytesIn
  obtain ⟨L2, hB2⟩ := hml.bytesIn
  have HBY := Lib.hid hB; have HBY2 := Lib.hid hB2
  have bb := u64_bd hbw
  obtain ⟨bad, rfl⟩ := Int.eq_ofNat_of_zero_le bb.1
  have hbad : bad ≤ 18446744073709551615 := by omega
  obtain ⟨hg1, hg2⟩ := blocks_good (l := L) (n := 2048) (by decide)
  have hle := blocksN_le L
  have hle2 := blocksN_le L2
  have hmo : ∀ x ∈ blocksN L2, x ≤ 18446744073709551615 := fun x hx => by obtain ⟨k, hk, rfl⟩ := blocksN_mem hx; omega
  obtain ⟨IN, hIN⟩ : ∃ x, blocksN L = x := ⟨_, rfl⟩
  obtain ⟨MO, hMO⟩ : ∃ x, blocksN L2 = x := ⟨_, rfl⟩
  obtain ⟨n, hn⟩ : ∃ x, IN.length = x := ⟨_, rfl⟩
  obtain ⟨m, hm⟩ : ∃ x, MO.length = x := ⟨_, rfl⟩
  rw [hIN] at hg1 hg2 hle
  rw [hMO] at hle2 hmo
  rw [hn] at hle
  rw [hm] at hle2
  have HIN := Lib.hid hIN; have HN := Lib.hid hn; have HG1 := Lib.hid hg1; have HG2 := Lib.hid hg2
  have HMO := Lib.hid hMO; have HM := Lib.hid hm; have HMX := Lib.hid hmo
  clear h hml hB hIN hn hg1 hg2 hbw bb hB2 hMO hm hmo
  by_cases hz : bad = 0 ∨ 2040 < bad
  case neg =>
    have t1 : ((bad : Int) == 0) = false := by rw [beq_eq_false_iff_ne]; omega
    have t2 : decide ((0 : Int) < (bad : Int)) = true := decide_eq_true (by omega)
    have t2' : decide (0 < bad) = true := decide_eq_true (by omega)
    have t3 : decide ((bad : Int) ≤ 2040) = true := decide_eq_true (by omega)
    go_enter Try.func7, Try.ntmps7
    go_wp2_with fail
    refine (alive_any _ C).mono ?_; rintro e w1 ⟨rfl, hb⟩
    have B1 := Lib.hid hb
    have s1 := B1.out.size
    clear hb
    go_wp2_with fail
    refine (new2048 _).mono ?_; rintro e w2 ⟨p, g, L0, rfl, hm, hL0, hlen, fp, fg, hb⟩
    have B2 := Lib.hid (below_then B1.out s1 hb)
    have s2 := B2.out.size
    clear hb hm hL0 hlen fp fg
    go_wp2_with fail
    refine (blocks_any _ (HBY.out.below B2.out)).mono ?_; rintro e w3 ⟨v, rfl, hv, hin, hb⟩
    have B3 := Lib.hid (below_then B2.out s2 hb)
    clear hb hv hin
    go_wp2
    go_ret
    exact ⟨rfl, B3.out⟩
  obtain ⟨want, hw1, hwant⟩ : ∃ want : Int, (want = 2 ∨ want = 3) ∧ ((bad = 0 ∧ ((bad : Int) == 0) = true ∧ decide ((0 : Int) < (bad : Int)) = false ∧ decide (0 < bad) = false ∧ want = 2) ∨ (2040 < bad ∧ ((bad : Int) == 0) = false ∧ decide ((0 : Int) < (bad : Int)) = true ∧ decide (0 < bad) = true ∧ decide ((bad : Int) ≤ 2040) = false ∧ want = 3)) := by
    rcases hz with hz | hz
    · exact ⟨2, Or.inl rfl, Or.inl ⟨hz, by rw [beq_iff_eq]; omega, decide_eq_false (by omega), decide_eq_false (by omega), rfl⟩⟩
    · exact ⟨3, Or.inr rfl, Or.inr ⟨hz, by rw [beq_eq_false_iff_ne]; omega, decide_eq_true (by omega), decide_eq_true (by omega), decide_eq_false (by omega), rfl⟩⟩
  have hpush : ∀ L0 : List Nat, L0.length = 2048 → (pushN ⟨L0, 0, 0⟩ (IN ++ [bad] ++ MO)).2 = want ∧ (pushN ⟨L0, 0, 0⟩ (IN ++ [bad] ++ MO)).1.n = (n : Int) := by
    intro L0 hl0
    obtain ⟨e1, e2, e3, e4⟩ := pushN_good IN ⟨L0, 0, 0⟩ [] rfl (by show L0.length ≤ _; omega) (by intro a ha; show a ≠ 0 ∧ a + 8 ≤ L0.length; rw [hl0]; exact HG1.out a ha) (by intro a _ b hb; cases hb) HG2.out
    have hb1 : (push1 (pushN ⟨L0, 0, 0⟩ IN).1 bad) = ((pushN ⟨L0, 0, 0⟩ IN).1, want) := by
      unfold push1
      rcases hwant with ⟨h1, _, _, _, rfl⟩ | ⟨h1, _, _, _, _, rfl⟩
      · rw [if_pos h1]
      · rw [if_neg (by omega), if_neg (by rw [e4]; show ¬ bad + 8 ≤ L0.length; omega)]
    have e5 : pushN ⟨L0, 0, 0⟩ (IN ++ [bad] ++ MO) = ((pushN ⟨L0, 0, 0⟩ IN).1, want) := by
      rw [List.append_assoc, pushN_app IN _ _ e1, List.singleton_append, pushN_stop _ _ _ (by rw [hb1]; show want ≠ 0; omega), hb1]
    rw [e5]
    exact ⟨rfl, by rw [e3, HN.out]; show (0 : Int) + _ = _; omega⟩
  have HPUSH := Lib.hid hpush
  have tw : ((want : Int) == want) = true := by simp
  have tn : ((n : Int) == (n : Int)) = true := by simp
  clear hpush
  have go : ∀ (t1 : True), Calls Try.prog 7 #[.slice a nn cap, .int .u64 (bad : Int), .slice ma mn mcap] w fun e w' => e = .returned (.bool true) ∧ Below w.heap.size w w' := by
    intro _
    rcases hwant with ⟨hz', t1, t2, t2', rfl⟩ | ⟨hz', t1, t2, t2', t3, rfl⟩
    all_goals
      have HZ := Lib.hid hz'
      clear hz'
      go_enter Try.func7, Try.ntmps7
      go_wp2_with fail
      refine (alive_any _ C).mono ?_; rintro e w1 ⟨rfl, hb⟩
      have B1 := Lib.hid hb
      have s1 := B1.out.size
      clear hb
      go_wp2_with fail
      refine (new2048 _).mono ?_; rintro e w2 ⟨p, g, L0, rfl, hm, hL0, hlen, fp, fg, hb⟩
      have B2 := Lib.hid (below_then B1.out s1 hb)
      have M2 := Lib.hid hm
      have s2 := B2.out.size
      have hp : w.heap.size ≤ p := Nat.le_trans s1 fp
      have hg : w.heap.size ≤ g := Nat.le_trans s1 fg
      have HLEN := Lib.hid hlen
      have hgl := hm.row.lt
      clear hb hm hL0 hlen fp fg
      go_wp2_with fail
      refine (blocks_any _ (HBY.out.below B2.out)).mono ?_; rintro e w3 ⟨v, rfl, hv, hin, hb⟩
      obtain ⟨a', cap', rfl, hc1, hc2⟩ := hv.slice'
      rw [HIN.out, HN.out] at hv hin hc1
      rw [HIN.out, HN.out]
      have V3 := Lib.hid hv; have N3 := Lib.hid hin
      have B3 := Lib.hid (below_then B2.out s2 hb)
      have s3 := B3.out.size
      have M3 := Lib.hid (M2.out.upd (updFalse_of hb) id id)
      have O3 := Lib.hid (One.make M3.out hp hg B3.out)
      have s23 := hb.size
      obtain ⟨lp, hlp⟩ : ∃ b, w3.heap.size = b := ⟨_, rfl⟩
      rw [hlp] at O3
      clear hb hv hin
      have hgl : g < lp := by have := M3.out.row.lt; omega
      have hpl : p < lp := by have := M3.out.head.lt; omega
      have hsz : (w3.alloc (.cells #[.int .u64 0, .int .i64 0] 33)).heap.size = lp + 1 := by rw [← hlp]; simp
      have V4 := Lib.hid (vec_newAt (w3.alloc (.cells #[.int .u64 0, .int .i64 0] 33)) 28 (lp + 1) hsz.symm)
      have S4 := Lib.hid ((V3.out.seq.alloc (.cells #[.int .u64 0, .int .i64 0] 33)).alloc (.cells #[] 28))
      have O4 := Lib.hid (O3.out.alloc (.cells #[] 28))
      have HSZ := Lib.hid hsz
      clear hsz
      go_wp2_with (first
        | (at_builtin; refine wpList_append_vec (E := Elem.u64s) rfl (.tmp 30) (.tmp 31) 37 rfl 28 i0 (.int .u64 0) 8 Try.underlying37 hi hz0 hz1 hz2 rfl (.slice (some ⟨lp + 1, 0, none⟩) 0 0) (.slice a' n cap') [] IN rfl rfl V4.out S4.out ?_ ?_ ?_; (have := HN.out; have := HM.out; simp only [maxLen, List.length_nil]; omega); (have := HN.out; have := HM.out; simp only [List.length_nil]; omega); intro v5 w5 hv5 hu5 hin5; have V5 := Lib.hid hv5; have U5 := Lib.hid hu5; have N5 := Lib.hid hin5; clear hv5 hu5 hin5)
        | (at_builtin; refine wpList_append_vec (E := Elem.u64s) rfl (.tmp 32) (.tmp 34) 37 rfl 28 i0 (.int .u64 0) 8 Try.underlying37 hi hz0 hz1 hz2 rfl v5 (.slice (some ⟨w5.heap.size, 0, none⟩) 1 1) ([] ++ IN) [bad] rfl rfl (V5.out.alloc _) (u64_oneAt w5 _ bad _ rfl) ?_ ?_ ?_; (have := HN.out; have := HM.out; simp only [maxLen, List.length_append, List.length_cons, List.length_nil]; omega); (have := HN.out; have := HM.out; simp only [List.length_append, List.length_cons, List.length_nil]; omega); intro v6 w6 hv6 hu6 hin6; have V6 := Lib.hid hv6; have U6 := Lib.hid hu6; have N6 := Lib.hid hin6; clear hv6 hu6 hin6)
        | (at_builtin; refine wpList_append_vec (E := Elem.u64s) rfl (.tmp 32) (.tmp 34) 37 rfl 28 i0 (.int .u64 0) 8 Try.underlying37 hi hz0 hz1 hz2 rfl v5 (.slice (some ⟨w5.heap.size, 0, none⟩) 1 1) ([] ++ IN) [0] rfl rfl (V5.out.alloc _) (u64_oneAt w5 _ 0 _ rfl) ?_ ?_ ?_; (have := HN.out; have := HM.out; simp only [maxLen, List.length_append, List.length_cons, List.length_nil]; omega); (have := HN.out; have := HM.out; simp only [List.length_append, List.length_cons, List.length_nil]; omega); intro v6 w6 hv6 hu6 hin6; have V6 : Hid (Vec Elem.u64s w6 v6 ([] ++ IN ++ [bad])) := Lib.hid (by rw [HZ.out]; exact hv6); have U6 := Lib.hid hu6; have N6 := Lib.hid hin6; clear hv6 hu6 hin6))
      have N5' : ∀ k, In v5 k → lp < k := fun k hk => by
        have hl := HSZ.out
        rcases N5.out k hk with h | h
        · have := in_blk h; omega
        · simp at h; omega
      have O5 := Lib.hid (O4.out.behind U5.out (fun b hb => by have := in_blk hb; omega) hpl hgl)
      have hl5 : lp < w5.heap.size := O5.out.lst.lt
      have N6' : ∀ k, In v6 k → lp < k := fun k hk => by
        rcases N6.out k hk with h | h
        · exact N5' k h
        · simp at h; omega
      have O6 := Lib.hid ((O5.out.alloc _).behind U6.out N5' hpl hgl)
      have N6H := Lib.hid N6'
      have hl6 : lp < w6.heap.size := O6.out.lst.lt
      clear N5' N6'
      refine (blocks_any _ (HBY2.out.below O6.out.below)).mono ?_; rintro e w7 ⟨v7, rfl, hv, hin, hb⟩
      rw [HMO.out] at hv
      have V7 := Lib.hid (V6.out.upd (updFalse_of hb) (fun _ _ h => h))
      have O7 := Lib.hid (O6.out.grew hb)
      have S7 := Lib.hid hv.seq
      have hl7 : lp < w7.heap.size := O7.out.lst.lt
      clear hv hin hb
      go_wp2_with (first
        | (at_builtin; refine wpList_append_vec (E := Elem.u64s) rfl (.tmp 35) (.tmp 37) 37 rfl 28 i0 (.int .u64 0) 8 Try.underlying37 hi hz0 hz1 hz2 rfl v6 v7 ([] ++ IN ++ [bad]) MO rfl rfl V7.out S7.out ?_ ?_ ?_; (have := HN.out; have := HM.out; simp only [maxLen, List.length_append, List.length_cons, List.length_nil]; omega); (have := HN.out; have := HM.out; simp only [List.length_append, List.length_cons, List.length_nil]; omega); intro v8 w8 hv8 hu8 hin8; have V8 := Lib.hid hv8; have U8 := Lib.hid hu8; have N8 := Lib.hid hin8; clear hv8 hu8 hin8))
      have O8 := Lib.hid (O7.out.behind U8.out N6H.out hpl hgl)
      have N8' : ∀ k, In v8 k → lp < k := fun k hk => by
        rcases N8.out k hk with h | h
        · exact N6H.out k h
        · omega
      have V8' : Vec Elem.u64s w8 v8 (IN ++ [bad] ++ MO) := V8.out
      obtain ⟨a8, cap8, rfl, hk1, hk2⟩ := V8'.slice'
      obtain ⟨q1, q2⟩ := HPUSH.out L0 HLEN.out
      have hp := C.push w8 O8.out.below O8.out.mem O8.out.lst V8'.seq (fun b hb => by have := N8' b hb; omega) hk1 hk2 (fun x hx => by
        rcases List.mem_append.1 hx with hx | hx
        · rcases List.mem_append.1 hx with hx | hx
          · have := HG1.out x hx; show x ≤ _; omega
          · rw [List.mem_singleton.1 hx]; exact hbad
        · exact HMX.out x hx) (by have := HN.out; have := HM.out; simp only [List.length_append, List.length_cons, List.length_nil]; omega) (by show (0 : Nat) ≤ _; omega) ⟨by show (0 : Int) ≤ 0; omega, by show (0 : Int) ≤ _; omega⟩
      generalize hT : pushN ⟨L0, 0, 0⟩ (IN ++ [bad] ++ MO) = T at q1 q2 hp
      obtain ⟨⟨TL, Th, Tn⟩, r⟩ := T
      simp only at q1 q2
      subst q1 q2
      refine hp.mono ?_; rintro e w9 ⟨rfl, hm, hl, hu⟩
      have c1 : w9.cell? ⟨lp, 1, none⟩ = some (.int .i64 (n : Int)) := hl.cell 1
      have B9 := Lib.hid (O8.out.turn (t := ⟨TL, Th, (n : Int)⟩) hm hl hu (fun b h => h)).below
      clear hp hm hl hu hT V8' N8' hk1 hk2
      go_wp2
      go_ret
      exact ⟨rfl, B9.out⟩
  exact go trivial
end Go.Proofs.Ytmnnmgphiiedgaa.listRefuses
