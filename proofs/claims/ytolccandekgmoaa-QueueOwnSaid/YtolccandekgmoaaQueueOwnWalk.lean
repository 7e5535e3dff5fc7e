/- The law QueueOwn, walked. -/
import Derived.Test.YtolccandekgmoaaAlive11
import Derived.Test.YtolccandekgmoaaOwn11
namespace Go.Proofs.Ytolccandekgmoaa.queueOwn
open Go.RowKit QueueMath
set_option linter.unusedVariables false

set_option maxRecDepth 100000 in
set_option maxHeartbeats 4000000 in
theorem walk_of (w : World) (C : QuC w) {a : Option Addr} {n cap : Nat} (l : List Int) (h : NumsAt w .i64 (.slice a n cap) l) :
    Calls Try.prog 7 #[.slice a n cap] w fun e w' => e = .returned (.bool true) ∧ Below w.heap.size w w' := by
  have hnl : n = l.length := by obtain ⟨_, _, e, _⟩ := h; injection e
  subst hnl
  have hcp : l.length ≤ cap ∧ cap ≤ 9223372036854775807 := by obtain ⟨_, _, e, h1, h2, _⟩ := h; injection e with _ _ e; subst e; exact ⟨h1, h2⟩
  obtain ⟨hc1, hc2⟩ := hcp
  have AL := Lib.hid (alive_any w C)
  have HV := Lib.hid h
  obtain ⟨i0, hi, hz0, hz1, hz2⟩ := info_parts infoInt
  obtain ⟨n, hn⟩ : ∃ n, l.length = n := ⟨_, rfl⟩
  have HN := Lib.hid hn
  rw [hn] at hc1 ⊢
  rw [hn] at HV
  clear h hn
  go_enter Try.func7, Try.ntmps7
  go_wp2_with fail
  refine AL.out.mono ?_; rintro e w2 ⟨rfl, hb⟩
  have B2 := Lib.hid hb
  clear hb AL
  by_cases h100 : 100 < n
  · have t1 : decide ((100 : Int) < (n : Int)) = true := decide_eq_true (by omega)
    have t1' : decide (100 < n) = true := decide_eq_true h100
    go_wp2
    go_ret
    exact ⟨rfl, B2.out⟩
  have n100 : n ≤ 100 := by omega
  have t1 : decide ((100 : Int) < (n : Int)) = false := decide_eq_false (by omega)
  have t1' : decide (100 < n) = false := decide_eq_false h100
  have hq : OQ C w2.heap.size (fun k => k = w2.heap.size) q0 ((w2.alloc (.cells zeroQ 28)).alloc (.cells zeroQ 28)) := (oq_new B2.out).alloc _
  have ho : OQ C (w2.heap.size + 1) (fun k => k = w2.heap.size + 1) q0 ((w2.alloc (.cells zeroQ 28)).alloc (.cells zeroQ 28)) := by
    have hb2 : Below w.heap.size w (w2.alloc (.cells zeroQ 28)) := B2.out.alloc B2.out.size _
    have := oq_new (C := C) hb2
    rw [World.size_alloc] at this
    exact this
  obtain ⟨b, hb⟩ : ∃ b, w2.heap.size = b := ⟨_, rfl⟩
  have hs3 : ((w2.alloc (.cells zeroQ 28)).alloc (.cells zeroQ 28)).heap.size = b + 2 := by simp; omega
  obtain ⟨W3, hW3⟩ : ∃ y, (w2.alloc (.cells #[.pointer none] 28)).alloc (.cells #[.pointer none] 28) = y := ⟨_, rfl⟩
  have eW3 : (w2.alloc (.cells zeroQ 28)).alloc (.cells zeroQ 28) = W3 := hW3
  rw [eW3] at hq ho hs3
  rw [hb] at hq ho
  have HQ := Lib.hid hq; have HO := Lib.hid ho; have S3 := Lib.hid hs3
  have hsl : Seq Elem.ints (W3.alloc (.cells #[] 3)) (.slice a n cap) l := HV.out.seqI.upd (updFalse_of (hq.alloc (.cells #[] 3)).below) (fun _ _ => id)
  have SL := Lib.hid hsl; have EW := Lib.hid hW3
  have HB := Lib.hid (show w.heap.size ≤ b by rw [← hb]; exact B2.out.size)
  clear hq ho eW3 hsl hs3 h100
  go_wp2_with (at_builtin; refine wpList_append_vec (E := Elem.ints) rfl (.tmp 17) (.tmp 18) 23 rfl 3 i0 (.int .i64 0) 8 Try.underlying23 hi hz0 hz1 hz2 rfl (.slice (some ⟨W3.heap.size, 0, none⟩) 0 0) (.slice a n cap) [] l rfl rfl (Vec.new W3 _) SL.out ?_ ?_ ?_; (rw [HN.out]; simp only [maxLen, List.length_nil]; omega); (rw [HN.out]; simp only [List.length_nil]; omega); intro v1 w5 hv hu hin)
  rw [List.nil_append] at hv
  obtain ⟨a1, c1, rfl, hd1, hd2⟩ := hv.slice'
  rw [HN.out] at hv hin hd1 ⊢
  have hu' : Upd (fun k => k = b + 2) (W3.alloc (.cells #[] 3)) w5 := hu.mono fun k hk => by have := in_blk hk; rw [S3.out] at this; exact this.symm
  have hin1 : ∀ k, In (.slice a1 n c1) k → b + 2 ≤ k := fun k hk => by
    rcases hin k hk with x | x
    · have := in_blk x; rw [S3.out] at this; omega
    · rw [World.size_alloc, S3.out] at x; omega
  have h5 := (HQ.out.alloc (.cells #[] 3)).upd hu' fun k hk => ⟨by show ¬ k = b; omega, by have := HB.out; omega⟩
  have o5 := (HO.out.alloc (.cells #[] 3)).upd hu' fun k hk => ⟨by show ¬ k = b + 1; omega, by have := HB.out; omega⟩
  have K6 := Lib.hid (oq_push h5 (hv.arr HV.out.ints64) (.inr fun k hk e => by have := hin1 k hk; have e : k = b := e; omega) (by rw [HN.out]; show 0 + n ≤ 1000000; omega))
  have O5 := Lib.hid o5; have V5 := Lib.hid hv; have N1 := Lib.hid hin1; have H5 := Lib.hid h5
  clear hu hu' hin hin1 h5 o5 hv HQ HO SL hb hW3
  go_wp2_with fail
  refine K6.out.mono ?_; rintro e w6 ⟨rfl, OO, hh, hOO, hu⟩
  have hlen := push_len q0 l
  obtain ⟨S, hS⟩ : ∃ S, (pushE q0 l).1 = S := ⟨_, rfl⟩
  rw [hS] at hh hlen
  have hSn : S.all.length ≤ n := by rw [HN.out] at hlen; have : q0.all.length = 0 := rfl; omega
  have H6 := Lib.hid hh; have HSN := Lib.hid hSn
  have V6 := Lib.hid (V5.out.upd hu fun k hk e => by have := N1.out k hk; have e : k = b := e; omega)
  have O6 := Lib.hid (O5.out.upd hu fun k hk => by have e : k = b := hk; exact ⟨by show ¬ k = b + 1; omega, by have := HB.out; omega⟩)
  have F1 := Lib.hid (show ∀ k, In (.slice a1 n c1) k → ¬ OO k ∧ k < w5.heap.size ∧ b + 2 ≤ k from fun k hk => ⟨fun ho => by
    rcases hOO k ho with x | x
    · have := N1.out k hk; have x : k = b := x; omega
    · have := V5.out.lt hk; omega, V5.out.lt hk, N1.out k hk⟩)
  have s56 := Lib.hid hu.size
  have B6 := Lib.hid (show b + 1 < w6.heap.size from O6.out.lt rfl)
  obtain ⟨r, hr⟩ : ∃ r, S.R.length = r := ⟨_, rfl⟩
  have HRL := Lib.hid hr
  have r100 : r ≤ 100 := by have : S.all.length = S.R.length + S.F.length := List.length_append; omega
  have K7 := oq_ready_own hh (by show _ ≤ 1000000; omega)
  rw [hr] at K7
  have K7 := Lib.hid K7
  clear hh hOO hu hlen hS hSn hr K6 H5 O5 V5
  go_wp2_with fail
  refine K7.out.mono ?_; rintro e w7 ⟨a7, c7, rfl, hv, hd3, hd4, hin, hb⟩
  have H7 := Lib.hid (H6.out.grew hb); have V7 := Lib.hid (V6.out.upd (updFalse_of hb) fun _ _ => id); have O7 := Lib.hid (O6.out.grew hb)
  have F2 := Lib.hid (show ∀ k, In (.slice a7 r c7) k → w6.heap.size ≤ k ∧ k < w7.heap.size from fun k hk => ⟨hin k hk, hv.lt hk⟩)
  have U7 := Lib.hid hv
  have s67 := Lib.hid hb.size
  have L6 := Lib.hid (show ∀ k, OO k → k < w6.heap.size from fun k hk => H6.out.lt hk)
  clear hv hin hb K7 H6 V6 O6
  go_wp2_with (at_builtin; refine wpList_append_vec (E := Elem.ints) rfl (.tmp 23) (.tmp 24) 23 rfl 3 i0 (.int .i64 0) 8 Try.underlying23 hi hz0 hz1 hz2 rfl (.slice (some ⟨w7.heap.size, 0, none⟩) 0 0) (.slice a7 r c7) [] S.R rfl rfl (Vec.new w7 _) (U7.out.seq.alloc _) ?_ ?_ ?_; (rw [HRL.out]; simp only [maxLen, List.length_nil]; omega); (rw [HRL.out]; simp only [List.length_nil]; omega); intro v9 w9 hv hu hin)
  rw [List.nil_append] at hv
  obtain ⟨a9, c9, rfl, hd5, hd6⟩ := hv.slice'
  rw [HRL.out] at hv hin hd5 ⊢
  have hu' : Upd (fun k => k = w7.heap.size) (w7.alloc (.cells #[] 3)) w9 := hu.mono fun k hk => (in_blk hk).symm
  have H9 := Lib.hid ((H7.out.alloc (.cells #[] 3)).upd hu' fun k hk => ⟨fun ho => by have := H7.out.lt ho; omega, by have := H7.out.below.size; omega⟩)
  have hb1 : b + 1 < w7.heap.size := O7.out.lt rfl
  have O9 := Lib.hid ((O7.out.alloc (.cells #[] 3)).upd hu' fun k hk => ⟨fun (e : k = b + 1) => by omega, by have := H7.out.below.size; omega⟩)
  have V9 := Lib.hid ((V7.out.alloc _).upd hu' fun k hk e => by have := V7.out.lt hk; omega)
  have U9 := Lib.hid ((U7.out.alloc _).upd hu' fun k hk e => by have := U7.out.lt hk; omega)
  have F3 := Lib.hid (show ∀ k, In (.slice a9 r c9) k → w7.heap.size ≤ k ∧ k < w9.heap.size from fun k hk => ⟨by
    rcases hin k hk with x | x
    · have := in_blk x; omega
    · rw [World.size_alloc] at x; omega, hv.lt hk⟩)
  have W9 := Lib.hid hv
  have s79 := Lib.hid (show w7.heap.size ≤ w9.heap.size by have := hu'.size; rw [World.size_alloc] at this; omega)
  have I9 := Lib.hid (show PutR w9 (.slice a1 n c1) n (.int .i64 0) w9 from ⟨0, _, Nat.zero_le _, rfl, V9.out, Upd.refl _ _⟩)
  have HB1 := Lib.hid hb1
  clear hv hu hin hu' hb1 H7 O7 V7 U7 V9
  go_wp2
  go_loopw [28] (fun i wr => PutR w9 (.slice a1 n c1) n i wr) (fun i _ => n - (intOf i).toNat)
  case atStart => exact I9.out
  case round =>
    clear I9
    obtain ⟨t, l', ht, rfl, hv, hu⟩ := hrel
    have HVV := Lib.hid hv; have HUU := Lib.hid hu
    by_cases htn : t < n
    · obtain ⟨g, off, y, ea, d0, fz⟩ := vec_at hv htn
      subst ea
      obtain ⟨z, hz⟩ : ∃ z, IntKind.i64.wrap (y + 1) = z := ⟨_, rfl⟩
      have NX := Lib.hid (PutR.next hv hu htn z)
      have t3 : decide ((t : Int) < (n : Int)) = true := decide_eq_true (by omega)
      have t3' : decide (t < n) = true := decide_eq_true htn
      have p0 : (0 : Int) ≤ (t : Int) := by omega
      have p1 : (t : Int) < (n : Int) := by omega
      clear hv hu
      go_wp2
      go_roundw
      case rel => exact NX.out
      case measure => simp [intOf]; omega
    · obtain rfl : t = n := by omega
      have t3 : decide ((t : Int) < (t : Int)) = false := decide_eq_false (by omega)
      have H10 := Lib.hid (H9.out.upd hu fun k hk => ⟨(F1.out k hk).1, by have := (F1.out k hk).2.2; have := HB.out; omega⟩)
      have O10 := Lib.hid (O9.out.upd hu fun k hk => ⟨fun (e : k = b + 1) => by have := (F1.out k hk).2.2; omega, by have := (F1.out k hk).2.2; have := HB.out; omega⟩)
      have U10 := Lib.hid (U9.out.upd hu fun k hk h1 => by have := (F2.out k hk).1; have := (F1.out k h1).2.1; have := s56.out; omega)
      have W10 := Lib.hid (W9.out.upd hu fun k hk h1 => by have := (F3.out k hk).1; have := (F1.out k h1).2.1; have := s56.out; have := s67.out; omega)
      have s9 := Lib.hid hu.size
      have I10 := Lib.hid (show PutR wr (.slice a7 r c7) r (.int .i64 0) wr from ⟨0, _, Nat.zero_le _, rfl, U10.out, Upd.refl _ _⟩)
      clear hv hu HVV HUU H9 O9 U9 W9
      go_wp2
      go_loopw [40] (fun i wr' => PutR wr (.slice a7 r c7) r i wr') (fun i _ => r - (intOf i).toNat)
      case atStart => exact I10.out
      case round =>
        clear I10
        obtain ⟨t, l2, ht, rfl, hv, hu⟩ := hrel
        have HVV := Lib.hid hv; have HUU := Lib.hid hu
        by_cases htn : t < r
        · obtain ⟨g, off, y, ea, d0, fz⟩ := vec_at hv htn
          subst ea
          obtain ⟨z, hz⟩ : ∃ z, IntKind.i64.wrap (y - 1) = z := ⟨_, rfl⟩
          have NX := Lib.hid (PutR.next hv hu htn z)
          have t3 : decide ((t : Int) < (r : Int)) = true := decide_eq_true (by omega)
          have t3' : decide (t < r) = true := decide_eq_true htn
          have p0 : (0 : Int) ≤ (t : Int) := by omega
          have p1 : (t : Int) < (r : Int) := by omega
          clear hv hu
          go_wp2
          go_roundw
          case rel => exact NX.out
          case measure => simp [intOf]; omega
        · obtain rfl : t = r := by omega
          have t3 : decide ((t : Int) < (t : Int)) = false := decide_eq_false (by omega)
          have H11 := Lib.hid (H10.out.upd hu fun k hk => ⟨fun ho => by have := (F2.out k hk).1; have := L6.out k ho; omega, by have := (F2.out k hk).1; have := s56.out; have := H10.out.below.size; have := HB.out; have := HB1.out; have h7 := s67.out; have := (F2.out k hk).2; have := B6.out; omega⟩)
          have O11 := Lib.hid (O10.out.upd hu fun k hk => ⟨fun (e : k = b + 1) => by have := (F2.out k hk).1; have := B6.out; omega, by have := (F2.out k hk).1; have := B6.out; have := HB.out; omega⟩)
          have W11 := Lib.hid (W10.out.upd hu fun k hk h1 => by have := (F3.out k hk).1; have := (F2.out k h1).2; omega)
          have s11 := Lib.hid hu.size
          obtain ⟨N, hN⟩ : ∃ N, S.all.length = N := ⟨_, rfl⟩
          have hN1 : N ≤ 100 := by have := HSN.out; omega
          have HNN := Lib.hid hN
          have K12 := oq_all_own H11.out (by rw [hN]; show _ ≤ 1000000; omega)
          rw [hN] at K12
          have K12 := Lib.hid K12
          clear hv hu HVV HUU H10 O10 U10 W10 hN
          go_wp2_with fail
          refine K12.out.mono ?_; rintro e w12 ⟨a12, c12, rfl, hv, hd7, hd8, hin, hb⟩
          have H12 := Lib.hid (H11.out.grew hb); have O12 := Lib.hid (O11.out.grew hb); have W12 := Lib.hid (W11.out.upd (updFalse_of hb) fun _ _ => id)
          have F4 := Lib.hid (show ∀ k, In (.slice a12 N c12) k → w9.heap.size ≤ k from fun k hk => by have := hin k hk; have := s9.out; have := s11.out; omega)
          have I12 := Lib.hid (show PutR w12 (.slice a12 N c12) N (.int .i64 0) w12 from ⟨0, _, Nat.zero_le _, rfl, hv, Upd.refl _ _⟩)
          clear hv hin hb K12 H11 O11 W11
          go_wp2
          go_loopw [53] (fun i wr' => PutR w12 (.slice a12 N c12) N i wr') (fun i _ => N - (intOf i).toNat)
          case atStart => exact I12.out
          case round =>
            clear I12
            obtain ⟨t2, l3, ht, rfl, hv, hu⟩ := hrel
            by_cases htn : t2 < N
            · obtain ⟨g, off, y, ea, d0, fz⟩ := vec_at hv htn
              subst ea
              have NX := Lib.hid (PutR.next hv hu htn 0)
              have t4 : decide ((t2 : Int) < (N : Int)) = true := decide_eq_true (by omega)
              have t4' : decide (t2 < N) = true := decide_eq_true htn
              have p0 : (0 : Int) ≤ (t2 : Int) := by omega
              have p1 : (t2 : Int) < (N : Int) := by omega
              clear hv hu
              go_wp2
              go_roundw
              case rel => exact NX.out
              case measure => simp [intOf]; omega
            · obtain rfl : t2 = N := by omega
              have t4 : decide ((t2 : Int) < (t2 : Int)) = false := decide_eq_false (by omega)
              have H13 := Lib.hid (H12.out.upd hu fun k hk => ⟨fun ho => by have := F4.out k hk; have := L6.out k ho; have := s67.out; have := s79.out; omega, by have := F4.out k hk; have := s67.out; have := s79.out; have := B6.out; have := HB.out; omega⟩)
              have O13 := Lib.hid (O12.out.upd hu fun k hk => ⟨fun (e : k = b + 1) => by have := F4.out k hk; have := s67.out; have := s79.out; have := B6.out; omega, by have := F4.out k hk; have := s67.out; have := s79.out; have := B6.out; have := HB.out; omega⟩)
              have W13 := Lib.hid (W12.out.upd hu fun k hk h1 => by have := (F3.out k hk).2; have := F4.out k h1; omega)
              have K14 := oq_ready H13.out (by rw [HNN.out]; show _ ≤ 1000000; omega)
              rw [HRL.out] at K14
              have K14 := Lib.hid K14
              clear hv hu H12 O12 W12
              go_wp2_with fail
              refine K14.out.mono ?_; rintro e w14 ⟨a14, c14, rfl, hv, _, _, _, hb⟩
              have O14 := Lib.hid (O13.out.grew hb)
              have SM := same11_any w14 hv.seq (W13.out.upd (updFalse_of hb) fun _ _ => id).seq (by omega) (by omega)
              rw [decide_eq_true rfl] at SM
              have SM := Lib.hid SM
              clear hv hb K14
              go_wp2_with fail
              refine SM.out.mono ?_; rintro e w15 ⟨rfl, hb⟩
              have O15 := Lib.hid (O14.out.grew hb)
              have K16 := oq_all O15.out (by decide)
              rw [show q0.all.length = 0 from rfl] at K16
              have K16 := Lib.hid K16
              clear hb SM
              go_wp2_with fail
              refine K16.out.mono ?_; rintro e w16 ⟨a16, c16, rfl, _, _, _, _, hb⟩
              have O16 := Lib.hid (O15.out.grew hb)
              have K17 := oq_has O16.out (Arr.nil w16) (by decide)
              rw [show hasE q0 [] = true from rfl] at K17
              have K17 := Lib.hid K17
              clear hb K16
              go_wp2_with fail
              refine K17.out.mono ?_; rintro e w17 ⟨rfl, hb⟩
              have O17 := Lib.hid (O16.out.grew hb)
              clear hb K17
              go_wp2
              go_ret
              exact ⟨rfl, O17.out.below⟩
end Go.Proofs.Ytolccandekgmoaa.queueOwn
