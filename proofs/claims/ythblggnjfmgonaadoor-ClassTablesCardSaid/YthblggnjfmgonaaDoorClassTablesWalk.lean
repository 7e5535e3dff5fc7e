/- The law ClassTables, walked. -/
import Derived.Test.YthblggnjfmgonaaDoorAllC
namespace Go.Proofs.YthblggnjfmgonaaDoor.classTables
open Go.RowKit ClassMath
set_option linter.unusedVariables false

theorem u64_bd {n : Int} (h : (Lit.int .u64 n).wf = true) : 0 ≤ n ∧ n ≤ 18446744073709551615 := by
  simp [Lit.wf, IntKind.min, IntKind.max, IntKind.signed, IntKind.bits] at h; omega
/-- What was wanted so far. -/
def Wanting (w1 : World) (nn : Nat) (l : List Int) (v i : Value) (wr : World) : Prop :=
  ∃ j : Nat, j ≤ nn ∧ i = .int .i64 (j : Int) ∧ Vec Elem.u64s wr v ((l.take j).filterMap pick) ∧ (∀ b, In v b → w1.heap.size ≤ b) ∧ Below w1.heap.size w1 wr
def Same5 (w1 : World) (n : Nat) (i : Value) (wr : World) : Prop := ∃ j : Nat, j ≤ n ∧ i = .int .i64 (j : Int) ∧ Below w1.heap.size w1 wr
theorem lt_of_eq {i n z : Nat} (h : i < n) (hz : z = n) : (i : Int) < (z : Int) := by omega
theorem nz {n : Nat} (h : ¬ n = 0) : ((n : Int) == 0) = false := by
  have : ¬ (n : Int) = 0 := by omega
  simpa using this
set_option maxRecDepth 100000 in
set_option maxHeartbeats 4000000 in
theorem tables_no (w : World) (C : Cl w) (A : AllC w) (c : Int) (hc1 : -9223372036854775808 ≤ c) (hc2 : c ≤ 9223372036854775807) (n : Nat) (hn : n ≤ 18446744073709551615) {a : Option Addr} {nn cap : Nat} (l : List Int) (h : NumsAt w .i64 (.slice a nn cap) l) (hlen : nn ≤ 300) (hc : c < 0 ∨ 12 ≤ c) :
    Calls Tryd.prog 3 #[.int .i64 c, .int .u64 (n : Int), .slice a nn cap] w fun e w' => e = .returned (.bool true) ∧ Below w.heap.size w w' := by
  obtain ⟨i0, hi, hz0, hz1, hz2⟩ := info_parts infoU64
  have HNN : Hid (nn = l.length) := Lib.hid h.seqI.len
  have HL3 : Hid (l.length ≤ 300) := Lib.hid (by rw [← HNN.out]; exact hlen)
  have N0 := Lib.hid h
  have p4 := C.of_ n hn
  have p5 := Lib.hid (fun w => ref_of w n hn)
  obtain ⟨k, hk⟩ : ∃ k, ofC (ofN n) = k := ⟨_, rfl⟩
  obtain ⟨ok, hok⟩ : ∃ b, (ofN n).isSome = b := ⟨_, rfl⟩
  rw [hk, hok] at p4
  rw [hk, hok] at p5
  obtain ⟨ee, hee, hcase⟩ : ∃ ee : Int, (if ok = true then (0 : Int) else 2) = ee ∧ ((ok = true ∧ ee = 0) ∨ (ok = false ∧ ee = 2)) := by
    cases ok
    · exact ⟨2, rfl, Or.inr ⟨rfl, rfl⟩⟩
    · exact ⟨0, rfl, Or.inl ⟨rfl, rfl⟩⟩
  rw [hee] at p4
  have P4 := Lib.hid p4
  have t0 : decide ((300 : Int) < (nn : Int)) = false := decide_eq_false (by omega)
  have tk : ((k : Int) != (k : Int)) = false := by simp
  have Q1 := Lib.hid (C.size_no c hc); have Q2 := Lib.hid (C.slices_no c hc); have Q3 := Lib.hid (C.blocks_no c hc)
  have tc : (decide (c < 0) = true) ∨ (decide (c < 0) = false ∧ decide ((12 : Int) ≤ c) = true) := by
    by_cases h : c < 0
    · exact Or.inl (decide_eq_true h)
    · exact Or.inr ⟨decide_eq_false h, decide_eq_true (by omega)⟩
  clear hc
  clear h p4 hk hok hee
  rcases hcase with ⟨rfl, rfl⟩ | ⟨rfl, rfl⟩
  all_goals rcases tc with tc | ⟨tc, td⟩
  all_goals
    go_enter Tryd.func3, Tryd.ntmps3
    go_wp2_with fail
    refine (alive_any _ C).mono ?_; rintro e w1 ⟨rfl, hb⟩
    have B1 := Lib.hid hb
    have s1 := hb.size
    clear hb
    go_wp2_with fail
    refine (Q1.out _ (by first | exact B1.out | exact B1.out.alloc s1 _)).mono ?_; rintro e w2 ⟨rfl, hb⟩
    have B2 := Lib.hid (B1.out.trans (hb.mono s1))
    have s2 := B2.out.size
    clear hb
    go_wp2_with fail
    refine (Q2.out _ (by first | exact B2.out | exact B2.out.alloc s2 _)).mono ?_; rintro e w3 ⟨rfl, hb⟩
    have B3 := Lib.hid (B2.out.trans (hb.mono s2))
    have s3 := B3.out.size
    clear hb
    go_wp2_with fail
    refine (Q3.out _ (by first | exact B3.out | exact B3.out.alloc s3 _)).mono ?_; rintro e w4 ⟨rfl, hb⟩
    have B4 := Lib.hid (B3.out.trans (hb.mono s3))
    have s4 := B4.out.size
    clear hb
    go_wp2_with fail
    refine (P4.out _ (by first | exact B4.out | exact B4.out.alloc s4 _)).mono ?_; rintro e w5 ⟨rfl, hb⟩
    have B5 := Lib.hid (B4.out.trans (hb.mono s4))
    have s5 := B5.out.size
    clear hb
    go_wp2_with fail
    refine (p5.out _).mono ?_; rintro e w6 ⟨rfl, hb⟩
    have B6 := Lib.hid (B5.out.trans (hb.mono s5))
    have s6 := B6.out.size
    clear hb
    go_wp2_with fail
    refine (ref_sizes _).mono ?_; rintro e w7 ⟨g, rfl, hz, hg, hb⟩
    have B7 := Lib.hid (B6.out.trans (hb.mono s6))
    have s7 := B7.out.size
    have Z7 := Lib.hid hz
    have hg0 : w.heap.size ≤ g := by omega
    clear hb hz hg
    go_wp2
    go_loopw [18, 133] (fun v i wr => Wanting w7 nn l v i wr) (fun v i _ => nn - (intOf i).toNat)
    case atStart => exact ⟨0, Nat.zero_le _, rfl, Vec.nil _, (by intro b hb; cases hb), Below.refl _ _⟩
    case round =>
      obtain ⟨j, hj, rfl, hv, hin, hb⟩ := hrel
      obtain ⟨a', cap', rfl, hvc1, hvc2⟩ := hv.slice'
      obtain ⟨n', hn'⟩ : ∃ x, ((l.take j).filterMap pick).length = x := ⟨_, rfl⟩
      have hn3 : n' ≤ 300 := by rw [← hn']; exact picked_length l j HL3.out
      rw [hn'] at hv hin hvc1
      rw [hn']
      have V := Lib.hid hv; have N := Lib.hid hin; have B := Lib.hid hb; have HN := Lib.hid hn'
      have sr := hb.size
      have BW := Lib.hid (B7.out.trans (hb.mono (s7)))
      have NR := Lib.hid (N0.out.below (Nat.le_refl _) BW.out)
      have ZR := Lib.hid (Z7.out.below hb)
      clear hv hin hb hn'
      by_cases hjl : j < nn
      · obtain ⟨x, hx⟩ : ∃ x, l[j]? = some x := ⟨l[j]'(by rw [← HNN.out]; exact hjl), List.getElem?_eq_getElem _⟩
        obtain ⟨b2, off2, rfl, hcell⟩ := NR.out.seqI.elem hx
        have d0 := hcell 0 (.int .i64 x) rfl
        simp only [Elem.ints, Nat.add_zero, Nat.mul_one] at d0
        have T := Lib.hid (picked_more hx)
        clear hcell hx
        have q2 : decide ((j : Int) < (nn : Int)) = true := decide_eq_true (by omega)
        by_cases hx1 : 0 ≤ x ∧ x < 12
        · obtain ⟨y, rfl⟩ := Int.eq_ofNat_of_zero_le hx1.1
          have hy : y < 12 := by omega
          have t3 : decide ((0 : Int) ≤ (y : Int)) = true := decide_eq_true (by omega)
          have t4 : decide ((y : Int) < 12) = true := decide_eq_true (by omega)
          have d1 := ZR.out.cell hy
          rw [pick_yes hy] at T
          obtain ⟨sy, hsy⟩ : ∃ s, sizeAt y = s := ⟨_, rfl⟩
          rw [hsy] at d1 T
          clear hx1 hsy
          go_wp2_with (at_builtin; refine wpList_append_vec (E := Elem.u64s) rfl (.tmp 145) (.tmp 150) 33 rfl 22 i0 (.int .u64 0) 8 Tryd.underlying33 hi hz0 hz1 hz2 rfl (.slice a' n' cap') (.slice (some ⟨wr.heap.size, 0, none⟩) 1 1) ((l.take j).filterMap pick) [sy] rfl rfl (V.out.alloc _) (u64_oneAt wr _ sy _ rfl) ?_ ?_ ?_; (have := HN.out; simp only [maxLen, List.length_cons, List.length_nil]; omega); (have := HN.out; simp only [List.length_cons, List.length_nil]; omega); intro v2 w2' hv2 hu2 hin2; have V2 := Lib.hid hv2; have BZ := Lib.hid (vec_below (B.out.alloc sr _) (Nat.le_trans sr (by simp)) N.out hu2); have N2 := Lib.hid hin2; clear hv2 hu2 hin2)
          go_roundw
          case rel =>
            refine ⟨j + 1, by omega, by go_num, by rw [T.out]; exact V2.out, fun b hb => ?_, BZ.out⟩
            rcases N2.out b hb with x | x
            · exact N.out b x
            · simp at x; omega
          case measure => simp [intOf]; omega
        · rw [pick_no (by omega)] at T
          by_cases hx2 : 0 ≤ x
          · have t3 : decide ((0 : Int) ≤ x) = true := decide_eq_true hx2
            have t4 : decide (x < 12) = false := decide_eq_false (by omega)
            go_wp2
            go_roundw
            case rel => exact ⟨j + 1, by omega, by go_num, by rw [T.out]; simpa [HN.out] using V.out, N.out, B.out⟩
            case measure => simp [intOf]; omega
          · have t3 : decide ((0 : Int) ≤ x) = false := decide_eq_false hx2
            go_wp2
            go_roundw
            case rel => exact ⟨j + 1, by omega, by go_num, by rw [T.out]; simpa [HN.out] using V.out, N.out, B.out⟩
            case measure => simp [intOf]; omega
      · have hjn : j = nn := by omega
        have q2 : decide ((j : Int) < (nn : Int)) = false := decide_eq_false (by omega)
        have VW := V.out
        rw [show l.take j = l by rw [hjn, HNN.out, List.take_length]] at VW
        have sw := BW.out.size
        have LL := Lib.hid (allOf_length l HL3.out)
        have hwant : ∃ a3 n3 c3 tz, (if tz = true then Value.slice (some ⟨g, 0, none⟩) 12 12 else Value.slice a' n' cap') = .slice a3 n3 c3 ∧ ((nn : Int) == 0) = tz ∧ Seq Elem.u64s wr (.slice a3 n3 c3) (allOf l) := by
          by_cases h0 : nn = 0
          · have : l = [] := List.length_eq_zero_iff.1 (by rw [← HNN.out]; exact h0)
            refine ⟨_, _, _, true, rfl, (by rw [h0]; rfl), ?_⟩
            rw [this]; exact ZR.out.seq
          · have : ¬ l = [] := by intro x; have := HNN.out; rw [x] at this; exact h0 this
            refine ⟨_, _, _, false, rfl, (nz h0), ?_⟩
            rw [allOf_some this]; exact VW.seq
        obtain ⟨a3, n3, c3, tz, hw3, hz3, hs3⟩ := hwant
        have W3 := Lib.hid hs3
        have HA := Lib.hid (A wr BW.out a nn cap l NR.out hlen)
        clear hs3 VW V N Z7
        cases tz
        all_goals
          simp only [if_true, Bool.false_eq_true, if_false] at hw3
          injection hw3 with e1 e2 e3
          subst e1 e2 e3
          go_wp2_with fail
          refine HA.out.mono ?_; rintro e w9 ⟨a4, n4, c4, rfl, hs4, hc4, hc5, hb⟩
          have R4 := Lib.hid hs4
          have R3 := Lib.hid (W3.out.below (Nat.le_refl _) hb)
          have B9 := Lib.hid (BW.out.trans (hb.mono sw))
          have s9 := B9.out.size
          have l3 := R3.out.len
          have l4 := R4.out.len
          obtain ⟨m, hm⟩ : ∃ m, (allOf l).length = m := ⟨_, rfl⟩
          have hm3 : m ≤ 300 := by rw [← hm]; exact LL.out
          have HM := Lib.hid hm
          rw [hm] at l3 l4
          subst l4
          have t9 : ∀ z : Nat, z = n4 → ((n4 : Int) != (z : Int)) = false := by rintro z rfl; simp
          have t10 := t9 _ l3
          try replace t10 : ((n4 : Int) != 12) = false := t10
          have L3 := Lib.hid l3
          clear hs4 hb hm l3 t9
          go_wp2
          go_loopw [166] (fun i wr => Same5 w9 n4 i wr) (fun i _ => n4 - (intOf i).toNat)
          case atStart => exact ⟨0, Nat.zero_le _, rfl, Below.refl _ _⟩
          case round =>
            obtain ⟨i, hil, rfl, hb⟩ := hrel
            have B10 := Lib.hid hb
            have R5 := Lib.hid (R4.out.below (Nat.le_refl _) hb)
            have R6 := Lib.hid (R3.out.below (Nat.le_refl _) hb)
            clear hb
            by_cases hin : i < n4
            · have q3 : decide ((i : Int) < (n4 : Int)) = true := decide_eq_true (by omega)
              obtain ⟨y, hy⟩ : ∃ y, (allOf l)[i]? = some y := ⟨(allOf l)[i]'(by rw [HM.out]; exact hin), List.getElem?_eq_getElem _⟩
              obtain ⟨b5, o5, e5, hcx⟩ := R5.out.elem hy
              obtain ⟨b6, o6, e6, hcy⟩ := R6.out.elem hy
              subst e5
              cases e6
              have d5 := hcx 0 (.int .u64 (y : Int)) rfl
              have d6 := hcy 0 (.int .u64 (y : Int)) rfl
              simp only [Elem.u64s, Nat.add_zero, Nat.mul_one] at d5 d6
              try simp only [Nat.zero_add] at d6
              have q4 : (0 : Int) ≤ (i : Int) := by omega
              have q5 : (i : Int) < (n4 : Int) := by omega
              have q6 := lt_of_eq hin L3.out
              try replace q6 : (i : Int) < 12 := q6
              clear hcx hcy hy
              go_wp2
              go_quiet (fail)
              go_wp2
              go_roundw
              case rel => exact ⟨i + 1, by omega, by go_num, B10.out.trans ⟨rfl, rfl, rfl, Nat.le_refl _, fun _ _ => rfl⟩⟩
              case measure => simp [intOf]; omega
            · have q3 : decide ((i : Int) < (n4 : Int)) = false := decide_eq_false (by omega)
              go_wp2
              go_ret
              exact ⟨rfl, B9.out.trans (B10.out.mono s9)⟩
set_option maxRecDepth 100000 in
set_option maxHeartbeats 4000000 in
theorem tables_yes (w : World) (C : Cl w) (A : AllC w) (c : Int) (hc1 : -9223372036854775808 ≤ c) (hc2 : c ≤ 9223372036854775807) (n : Nat) (hn : n ≤ 18446744073709551615) {a : Option Addr} {nn cap : Nat} (l : List Int) (h : NumsAt w .i64 (.slice a nn cap) l) (hlen : nn ≤ 300) (y0 : Nat) (hy0 : y0 < 12) (hcy : c = (y0 : Int)) :
    Calls Tryd.prog 3 #[.int .i64 c, .int .u64 (n : Int), .slice a nn cap] w fun e w' => e = .returned (.bool true) ∧ Below w.heap.size w w' := by
  obtain ⟨i0, hi, hz0, hz1, hz2⟩ := info_parts infoU64
  have HNN : Hid (nn = l.length) := Lib.hid h.seqI.len
  have HL3 : Hid (l.length ≤ 300) := Lib.hid (by rw [← HNN.out]; exact hlen)
  have N0 := Lib.hid h
  have p4 := C.of_ n hn
  have p5 := Lib.hid (fun w => ref_of w n hn)
  obtain ⟨k, hk⟩ : ∃ k, ofC (ofN n) = k := ⟨_, rfl⟩
  obtain ⟨ok, hok⟩ : ∃ b, (ofN n).isSome = b := ⟨_, rfl⟩
  rw [hk, hok] at p4
  rw [hk, hok] at p5
  obtain ⟨ee, hee, hcase⟩ : ∃ ee : Int, (if ok = true then (0 : Int) else 2) = ee ∧ ((ok = true ∧ ee = 0) ∨ (ok = false ∧ ee = 2)) := by
    cases ok
    · exact ⟨2, rfl, Or.inr ⟨rfl, rfl⟩⟩
    · exact ⟨0, rfl, Or.inl ⟨rfl, rfl⟩⟩
  rw [hee] at p4
  have P4 := Lib.hid p4
  have t0 : decide ((300 : Int) < (nn : Int)) = false := decide_eq_false (by omega)
  have tk : ((k : Int) != (k : Int)) = false := by simp
  subst hcy
  have tc : decide ((y0 : Int) < 0) = false := decide_eq_false (by omega)
  have td : decide ((12 : Int) ≤ (y0 : Int)) = false := decide_eq_false (by omega)
  have q1 := C.size y0 hy0; have q2 := C.slices y0 hy0; have q3 := C.blocks y0 hy0
  have q4 := Lib.hid (fun w => ref_slices w y0 hy0); have q5 := Lib.hid (fun w => ref_blocks w y0 hy0)
  have q6 := Lib.hid (fun (w : World) (g : Nat) (h : SizesAt w g) => h.cell hy0)
  obtain ⟨sz, hsz⟩ : ∃ s, sizeAt y0 = s := ⟨_, rfl⟩
  obtain ⟨sl, hsl⟩ : ∃ s, slicesAt y0 = s := ⟨_, rfl⟩
  obtain ⟨bl, hbl⟩ : ∃ s, blocksAt y0 = s := ⟨_, rfl⟩
  rw [hsz] at q1 q6
  rw [hsl] at q2 q4
  rw [hbl] at q3 q5
  have Q1 := Lib.hid q1; have Q2 := Lib.hid q2; have Q3 := Lib.hid q3
  have te : ((sz : Int) != (sz : Int)) = false := by simp
  have tf : ((sl : Int) != (sl : Int)) = false := by simp
  have tg : ((bl : Int) != (bl : Int)) = false := by simp
  clear q1 q2 q3 hsz hsl hbl
  clear h p4 hk hok hee
  rcases hcase with ⟨rfl, rfl⟩ | ⟨rfl, rfl⟩
  all_goals
    go_enter Tryd.func3, Tryd.ntmps3
    go_wp2_with fail
    refine (alive_any _ C).mono ?_; rintro e w1 ⟨rfl, hb⟩
    have B1 := Lib.hid hb
    have s1 := hb.size
    clear hb
    go_wp2_with fail
    refine (Q1.out _ (by first | exact B1.out | exact B1.out.alloc s1 _)).mono ?_; rintro e w2 ⟨rfl, hb⟩
    have B2 := Lib.hid (B1.out.trans (hb.mono s1))
    have s2 := B2.out.size
    clear hb
    go_wp2_with fail
    refine (Q2.out _ (by first | exact B2.out | exact B2.out.alloc s2 _)).mono ?_; rintro e w3 ⟨rfl, hb⟩
    have B3 := Lib.hid (B2.out.trans (hb.mono s2))
    have s3 := B3.out.size
    clear hb
    go_wp2_with fail
    refine (Q3.out _ (by first | exact B3.out | exact B3.out.alloc s3 _)).mono ?_; rintro e w4 ⟨rfl, hb⟩
    have B4 := Lib.hid (B3.out.trans (hb.mono s3))
    have s4 := B4.out.size
    clear hb
    go_wp2_with fail
    refine (P4.out _ (by first | exact B4.out | exact B4.out.alloc s4 _)).mono ?_; rintro e w5 ⟨rfl, hb⟩
    have B5 := Lib.hid (B4.out.trans (hb.mono s4))
    have s5 := B5.out.size
    clear hb
    go_wp2_with fail
    refine (p5.out _).mono ?_; rintro e w6 ⟨rfl, hb⟩
    have B6 := Lib.hid (B5.out.trans (hb.mono s5))
    have s6 := B6.out.size
    clear hb
    go_wp2_with fail
    refine (ref_sizes _).mono ?_; rintro e w7 ⟨g, rfl, hz, hg, hb⟩
    have B7 := Lib.hid (B6.out.trans (hb.mono s6))
    have s7 := B7.out.size
    have Z7 := Lib.hid hz
    have hg0 : w.heap.size ≤ g := by omega
    clear hb hz hg
    have dz := q6.out _ _ Z7.out
    go_wp2_with fail
    refine (q4.out _).mono ?_; rintro e w8 ⟨rfl, hb⟩
    have B8 := Lib.hid (B7.out.trans (hb.mono s7))
    have s8 := B8.out.size
    have Z8 := Lib.hid (Z7.out.below hb)
    clear hb dz
    have dz := q6.out _ _ Z8.out
    go_wp2_with fail
    refine (q5.out _).mono ?_; rintro e w9 ⟨rfl, hb⟩
    have B9 := Lib.hid (B8.out.trans (hb.mono s8))
    have s9 := B9.out.size
    have Z9 := Lib.hid (Z8.out.below hb)
    clear hb dz
    go_wp2
    go_loopw [18, 133] (fun v i wr => Wanting w9 nn l v i wr) (fun v i _ => nn - (intOf i).toNat)
    case atStart => exact ⟨0, Nat.zero_le _, rfl, Vec.nil _, (by intro b hb; cases hb), Below.refl _ _⟩
    case round =>
      obtain ⟨j, hj, rfl, hv, hin, hb⟩ := hrel
      obtain ⟨a', cap', rfl, hvc1, hvc2⟩ := hv.slice'
      obtain ⟨n', hn'⟩ : ∃ x, ((l.take j).filterMap pick).length = x := ⟨_, rfl⟩
      have hn3 : n' ≤ 300 := by rw [← hn']; exact picked_length l j HL3.out
      rw [hn'] at hv hin hvc1
      rw [hn']
      have V := Lib.hid hv; have N := Lib.hid hin; have B := Lib.hid hb; have HN := Lib.hid hn'
      have sr := hb.size
      have BW := Lib.hid (B9.out.trans (hb.mono (s9)))
      have NR := Lib.hid (N0.out.below (Nat.le_refl _) BW.out)
      have ZR := Lib.hid (Z9.out.below hb)
      clear hv hin hb hn'
      by_cases hjl : j < nn
      · obtain ⟨x, hx⟩ : ∃ x, l[j]? = some x := ⟨l[j]'(by rw [← HNN.out]; exact hjl), List.getElem?_eq_getElem _⟩
        obtain ⟨b2, off2, rfl, hcell⟩ := NR.out.seqI.elem hx
        have d0 := hcell 0 (.int .i64 x) rfl
        simp only [Elem.ints, Nat.add_zero, Nat.mul_one] at d0
        have T := Lib.hid (picked_more hx)
        clear hcell hx
        have q2 : decide ((j : Int) < (nn : Int)) = true := decide_eq_true (by omega)
        by_cases hx1 : 0 ≤ x ∧ x < 12
        · obtain ⟨y, rfl⟩ := Int.eq_ofNat_of_zero_le hx1.1
          have hy : y < 12 := by omega
          have t3 : decide ((0 : Int) ≤ (y : Int)) = true := decide_eq_true (by omega)
          have t4 : decide ((y : Int) < 12) = true := decide_eq_true (by omega)
          have d1 := ZR.out.cell hy
          rw [pick_yes hy] at T
          obtain ⟨sy, hsy⟩ : ∃ s, sizeAt y = s := ⟨_, rfl⟩
          rw [hsy] at d1 T
          clear hx1 hsy
          go_wp2_with (at_builtin; refine wpList_append_vec (E := Elem.u64s) rfl (.tmp 145) (.tmp 150) 33 rfl 22 i0 (.int .u64 0) 8 Tryd.underlying33 hi hz0 hz1 hz2 rfl (.slice a' n' cap') (.slice (some ⟨wr.heap.size, 0, none⟩) 1 1) ((l.take j).filterMap pick) [sy] rfl rfl (V.out.alloc _) (u64_oneAt wr _ sy _ rfl) ?_ ?_ ?_; (have := HN.out; simp only [maxLen, List.length_cons, List.length_nil]; omega); (have := HN.out; simp only [List.length_cons, List.length_nil]; omega); intro v2 w2' hv2 hu2 hin2; have V2 := Lib.hid hv2; have BZ := Lib.hid (vec_below (B.out.alloc sr _) (Nat.le_trans sr (by simp)) N.out hu2); have N2 := Lib.hid hin2; clear hv2 hu2 hin2)
          go_roundw
          case rel =>
            refine ⟨j + 1, by omega, by go_num, by rw [T.out]; exact V2.out, fun b hb => ?_, BZ.out⟩
            rcases N2.out b hb with x | x
            · exact N.out b x
            · simp at x; omega
          case measure => simp [intOf]; omega
        · rw [pick_no (by omega)] at T
          by_cases hx2 : 0 ≤ x
          · have t3 : decide ((0 : Int) ≤ x) = true := decide_eq_true hx2
            have t4 : decide (x < 12) = false := decide_eq_false (by omega)
            go_wp2
            go_roundw
            case rel => exact ⟨j + 1, by omega, by go_num, by rw [T.out]; simpa [HN.out] using V.out, N.out, B.out⟩
            case measure => simp [intOf]; omega
          · have t3 : decide ((0 : Int) ≤ x) = false := decide_eq_false hx2
            go_wp2
            go_roundw
            case rel => exact ⟨j + 1, by omega, by go_num, by rw [T.out]; simpa [HN.out] using V.out, N.out, B.out⟩
            case measure => simp [intOf]; omega
      · have hjn : j = nn := by omega
        have q2 : decide ((j : Int) < (nn : Int)) = false := decide_eq_false (by omega)
        have VW := V.out
        rw [show l.take j = l by rw [hjn, HNN.out, List.take_length]] at VW
        have sw := BW.out.size
        have LL := Lib.hid (allOf_length l HL3.out)
        have hwant : ∃ a3 n3 c3 tz, (if tz = true then Value.slice (some ⟨g, 0, none⟩) 12 12 else Value.slice a' n' cap') = .slice a3 n3 c3 ∧ ((nn : Int) == 0) = tz ∧ Seq Elem.u64s wr (.slice a3 n3 c3) (allOf l) := by
          by_cases h0 : nn = 0
          · have : l = [] := List.length_eq_zero_iff.1 (by rw [← HNN.out]; exact h0)
            refine ⟨_, _, _, true, rfl, (by rw [h0]; rfl), ?_⟩
            rw [this]; exact ZR.out.seq
          · have : ¬ l = [] := by intro x; have := HNN.out; rw [x] at this; exact h0 this
            refine ⟨_, _, _, false, rfl, (nz h0), ?_⟩
            rw [allOf_some this]; exact VW.seq
        obtain ⟨a3, n3, c3, tz, hw3, hz3, hs3⟩ := hwant
        have W3 := Lib.hid hs3
        have HA := Lib.hid (A wr BW.out a nn cap l NR.out hlen)
        clear hs3 VW V N Z7
        cases tz
        all_goals
          simp only [if_true, Bool.false_eq_true, if_false] at hw3
          injection hw3 with e1 e2 e3
          subst e1 e2 e3
          go_wp2_with fail
          refine HA.out.mono ?_; rintro e w11 ⟨a4, n4, c4, rfl, hs4, hc4, hc5, hb⟩
          have R4 := Lib.hid hs4
          have R3 := Lib.hid (W3.out.below (Nat.le_refl _) hb)
          have B11 := Lib.hid (BW.out.trans (hb.mono sw))
          have s11 := B11.out.size
          have l3 := R3.out.len
          have l4 := R4.out.len
          obtain ⟨m, hm⟩ : ∃ m, (allOf l).length = m := ⟨_, rfl⟩
          have hm3 : m ≤ 300 := by rw [← hm]; exact LL.out
          have HM := Lib.hid hm
          rw [hm] at l3 l4
          subst l4
          have t9 : ∀ z : Nat, z = n4 → ((n4 : Int) != (z : Int)) = false := by rintro z rfl; simp
          have t10 := t9 _ l3
          try replace t10 : ((n4 : Int) != 12) = false := t10
          have L3 := Lib.hid l3
          clear hs4 hb hm l3 t9
          go_wp2
          go_loopw [166] (fun i wr => Same5 w11 n4 i wr) (fun i _ => n4 - (intOf i).toNat)
          case atStart => exact ⟨0, Nat.zero_le _, rfl, Below.refl _ _⟩
          case round =>
            obtain ⟨i, hil, rfl, hb⟩ := hrel
            have B10 := Lib.hid hb
            have R5 := Lib.hid (R4.out.below (Nat.le_refl _) hb)
            have R6 := Lib.hid (R3.out.below (Nat.le_refl _) hb)
            clear hb
            by_cases hin : i < n4
            · have q3 : decide ((i : Int) < (n4 : Int)) = true := decide_eq_true (by omega)
              obtain ⟨y, hy⟩ : ∃ y, (allOf l)[i]? = some y := ⟨(allOf l)[i]'(by rw [HM.out]; exact hin), List.getElem?_eq_getElem _⟩
              obtain ⟨b5, o5, e5, hcx⟩ := R5.out.elem hy
              obtain ⟨b6, o6, e6, hcy⟩ := R6.out.elem hy
              subst e5
              cases e6
              have d5 := hcx 0 (.int .u64 (y : Int)) rfl
              have d6 := hcy 0 (.int .u64 (y : Int)) rfl
              simp only [Elem.u64s, Nat.add_zero, Nat.mul_one] at d5 d6
              try simp only [Nat.zero_add] at d6
              have q4 : (0 : Int) ≤ (i : Int) := by omega
              have q5 : (i : Int) < (n4 : Int) := by omega
              have q6 := lt_of_eq hin L3.out
              try replace q6 : (i : Int) < 12 := q6
              clear hcx hcy hy
              go_wp2
              go_quiet (fail)
              go_wp2
              go_roundw
              case rel => exact ⟨i + 1, by omega, by go_num, B10.out.trans ⟨rfl, rfl, rfl, Nat.le_refl _, fun _ _ => rfl⟩⟩
              case measure => simp [intOf]; omega
            · have q3 : decide ((i : Int) < (n4 : Int)) = false := decide_eq_false (by omega)
              go_wp2
              go_ret
              exact ⟨rfl, B11.out.trans (B10.out.mono s11)⟩
set_option maxRecDepth 100000 in
theorem tables_great (w : World) (C : Cl w) (c : Int) (n : Nat) {a : Option Addr} {nn cap : Nat} (hlen : 300 < nn) :
    Calls Tryd.prog 3 #[.int .i64 c, .int .u64 (n : Int), .slice a nn cap] w fun e w' => e = .returned (.bool true) ∧ Below w.heap.size w w' := by
  have t0 : decide ((300 : Int) < (nn : Int)) = true := decide_eq_true (by omega)
  clear hlen
  go_enter Tryd.func3, Tryd.ntmps3
  go_wp2_with fail
  refine (alive_any _ C).mono ?_; rintro e w1 ⟨rfl, hb⟩
  have B1 := Lib.hid hb
  clear hb
  go_wp2
  go_ret
  exact ⟨rfl, B1.out⟩
theorem walk_of (w : World) (C : Cl w) (A : AllC w) (c : Int) (h1 : (Lit.int .i64 c).wf = true) (n : Int) (h2 : (Lit.int .u64 n).wf = true) {a : Option Addr} {nn cap : Nat} (l : List Int) (h : NumsAt w .i64 (.slice a nn cap) l) :
    Calls Tryd.prog 3 #[.int .i64 c, .int .u64 n, .slice a nn cap] w fun e w' => e = .returned (.bool true) ∧ Below w.heap.size w w' := by
  have b2 := u64_bd h2
  obtain ⟨n, rfl⟩ := Int.eq_ofNat_of_zero_le b2.1
  have b1 := I64.of h1
  rcases Nat.lt_or_ge 300 nn with hl | hl
  · exact tables_great w C c n hl
  · by_cases hc : 0 ≤ c ∧ c < 12
    · exact tables_yes w C A c b1.1 b1.2 n (by omega) l h hl c.toNat (by omega) (by omega)
    · exact tables_no w C A c b1.1 b1.2 n (by omega) l h hl (by omega)
end Go.Proofs.YthblggnjfmgonaaDoor.classTables
