/- The law StackOnce, walked. -/
import Derived.Test.YtgaecgijmnkdgaaAlive13
import Derived.Test.YtgaecgijmnkdgaaBytesIn
import Derived.Test.YtgaecgijmnkdgaaOnce13
import Derived.Test.YtgaecgijmnkdgaaAt13
import Derived.Maps.RangeWalk
namespace Go.Proofs.Ytgaecgijmnkdgaa.stackOnce
open Go.RowKit Go.Maps StackMath
set_option linter.unusedVariables false

/-- The moves are made: k of them. -/
def MkR (w : World) (s N B : Nat) (base : Nat) (v i : Value) (wr : World) : Prop :=
  ∃ (j : Nat) (ms : Mvs), j ≤ B ∧ i = .int .i64 (j : Int) ∧ ms.length = base + j ∧ FS w s s0 ms wr ∧ Fresh N ms ∧ Vec Elem.ptrs wr v (ptrsOf (ms.map (·.1))) ∧ (∀ k, In v k → w.heap.size ≤ k ∧ k ≠ s ∧ ∀ x ∈ ms, x.1 ≠ k)
/-- The turns. -/
def TuR (w : World) (s N n : Nat) (ids : List Nat) (v i : Value) (wr : World) : Prop :=
  ∃ (j : Nat) (S : SS) (ms : Mvs), j ≤ n ∧ i = .int .i64 (j : Int) ∧ FS w s S ms wr ∧ Inv S ms N ∧ S.n ≤ j ∧ ms.map (·.1) = ids ∧ Seq Elem.ptrs wr v (ptrsOf ids)
/-- The map, while it is made. -/
def CoR (w3 : World) (bm : Nat) (n eB : Nat) (F : Nat → Nat → Nat) (i : Value) (wr : World) : Prop :=
  ∃ (t e : Nat) (D : DataW Unit), t ≤ n ∧ i = .int .i64 (t : Int) ∧ Upd (fun k => k = bm) w3 wr ∧ wr.ownsMap Try.prog 3 (plainElem Try.prog 3) bm e D ∧ e ≤ eB + t ∧ CD D (F t)
def ReR (w3 : World) (bm r : Nat) (e : Nat) (D : DataW Unit) (wr : World) : Prop :=
  ∃ (left : Lit → Bool) (cnt : Nat), wr.ranges Try.prog 3 (plainElem Try.prog 3) bm r e D left cnt ∧ Upd (fun k => k = bm ∨ k = r) w3 wr
theorem ids_at {ms : Mvs} {ids : List Nat} (h : ms.map (·.1) = ids) {t : Nat} {y : Nat × MV} (hy : ms[t]? = some y) : ids[t]? = some y.1 := by rw [← h, List.getElem?_map, hy]; rfl
theorem ptrs_len (ids : List Nat) : (ptrsOf ids).length = ids.length := List.length_map _
theorem fs_upds {w w' w2 : World} {s b : Nat} {S : SS} {ms : Mvs} (h : FS w s S ms w') (u : Upd (fun k => k = b) w' w2) (hb : w.heap.size ≤ b) (hs : b ≠ s) (hm : ∀ x ∈ ms, x.1 ≠ b) : FS w s S ms w2 :=
  h.upd u fun k hk => by rw [hk]; exact ⟨hb, hs, hm⟩
set_option maxRecDepth 100000 in
set_option maxHeartbeats 4000000 in
theorem walk_short (w : World) {a : Option Addr} {n cap : Nat} (L : List Nat) (hB : BytesIn w a n L) (hl : n ≤ 300) (x y N K : Nat) (hx : x ≤ 255) (hy : y ≤ 255) (hxN : x % 20 = N) (hyK : y % 20 = K) :
    Calls Try.prog 4 #[.slice a n cap, .int .u8 (x : Int), .int .u8 (y : Int)] w fun e w' => e = .returned (.bool true) ∧ Below w.heap.size w w' := by
  have HB := Lib.hid hB
  have t0 : decide ((300 : Int) < (n : Int)) = false := decide_eq_false (by omega)
  obtain ⟨em1, em2⟩ := mod_of hxN
  have em1 : Int.tmod (x : Int) 20 = (N : Int) := em1
  have em2 : (x : Int) % 20 = (N : Int) := em2
  obtain ⟨em3, em4⟩ := mod_of hyK
  have em3 : Int.tmod (y : Int) 20 = (K : Int) := em3
  have em4 : (y : Int) % 20 = (K : Int) := em4
  have hN20 : N < 20 := by omega
  have hK20 : K < 20 := by omega
  have ZS := zero_stack
  obtain ⟨i0, hi, hz0, hz1, hz2⟩ := info_parts infoMv
  clear hB hxN hyK
  go_enter Try.func4, Try.ntmps4
  go_wp2_with fail
  refine (alive_any w).mono ?_; rintro e w1 ⟨rfl, hb⟩
  obtain ⟨W, hW, hf, hb2, hs2⟩ := fs_new (w := w) hb
  obtain ⟨s, hss⟩ : ∃ z, w1.heap.size = z := ⟨_, rfl⟩
  rw [hss] at hf
  have I0 := Lib.hid (show MkR w s N N 0 (.slice none 0 0) (.int .i64 0) W from ⟨0, [], Nat.zero_le _, rfl, rfl, hf, Fresh.nil _, Vec.nil _, fun k hk => by cases hk⟩)
  clear hf hb2 hs2 hb
  go_wp2
  go_loopw [8, 34] (fun v i wr => MkR w s N N 0 v i wr) (fun v i _ => N - (intOf i).toNat)
  case atStart => exact I0.out
  case round =>
    clear I0 hW hss
    obtain ⟨j, ms, hjB, rfl, hlen, hf, hfr, hv, hvn⟩ := hrel
    obtain ⟨a1, c1, rfl, hc1, hc2⟩ := hv.slice'
    have hpl : (ptrsOf (ms.map (·.1))).length = j := by rw [ptrs_len, List.length_map]; omega
    rw [hpl] at hv hc1 hvn ⊢
    by_cases hjN : j < N
    · have t2 : decide ((j : Int) < (N : Int)) = true := decide_eq_true (by omega)
      have t2' : decide (j < N) = true := decide_eq_true hjN
      have P := Lib.hid (fs_push hf (p := j) (by omega))
      have V := Lib.hid hv; have VN := Lib.hid hvn; have FR := Lib.hid hfr
      have VL := Lib.hid (fun k (hk : In (.slice a1 j c1) k) => hv.lt hk)
      have HL := Lib.hid (And.intro hlen hpl)
      clear hf hv hvn hfr hlen hpl
      go_wp2_with fail
      refine P.out.mono ?_; rintro e w5 ⟨m, rfl, hf, hmlo, hbl⟩
      have F5 := Lib.hid hf
      have V5 := Lib.hid (V.out.upd (updFalse_of hbl) (fun _ _ => id))
      have ML := Lib.hid (And.intro hmlo hbl.size)
      have N1 := Lib.hid (Vec.one13p w5 35 (some ⟨m, 0, none⟩))
      clear hf hbl hmlo P
      go_wp2_with (at_builtin; refine wpList_append_vec (E := Elem.ptrs) rfl (.tmp 42) (.tmp 44) 57 rfl 35 i0 (.pointer none) 8 Try.underlying57 hi hz0 hz1 hz2 rfl (.slice a1 j c1) (.slice (some ⟨w5.heap.size, 0, none⟩) 1 1) (ptrsOf (ms.map (·.1))) [some ⟨m, 0, none⟩] rfl rfl (V5.out.alloc _) N1.out.seq ?_ ?_ ?_; (rw [HL.out.2]; simp only [maxLen, List.length_cons, List.length_nil]; omega); (rw [HL.out.2]; simp only [List.length_cons, List.length_nil]; omega); intro v' w9 hv1 hu1 hin1; have V1 := Lib.hid hv1; have U1 := Lib.hid hu1; have I1 := Lib.hid hin1; clear hv1 hu1 hin1)
      have hlm : ms.length < N := by have := HL.out.1; omega
      have f9 : FS w s s0 (ms ++ [(m, mPush j)]) w9 := (F5.out.alloc _).upd U1.out (fun k hk => by
        obtain ⟨h1, h2, h3⟩ := VN.out k hk
        have h4 := VL.out k hk
        have h5 := ML.out.1
        exact ⟨h1, h2, fun x hx => by
          rcases List.mem_append.1 hx with hx | hx
          · exact h3 x hx
          · rw [List.mem_singleton.1 hx]; show m ≠ k; omega⟩)
      have NX := Lib.hid (show MkR w s N N 0 v' (.int .i64 ((j + 1 : Nat) : Int)) w9 from ⟨j + 1, ms ++ [(m, mPush j)], by omega, rfl, by have := HL.out.1; rw [List.length_append, List.length_singleton]; omega, f9, FR.out.snoc (by rw [if_pos hlm]; have := HL.out.1; rw [show ms.length = j by omega]), by rw [List.map_append]; unfold ptrsOf; rw [List.map_append]; exact V1.out, fun k hk => by
        rcases I1.out k hk with h | h
        · obtain ⟨h1, h2, h3⟩ := VN.out k h
          have h4 := VL.out k h
          have h5 := ML.out.1
          exact ⟨h1, h2, fun x hx => by
            rcases List.mem_append.1 hx with hx | hx
            · exact h3 x hx
            · rw [List.mem_singleton.1 hx]; show m ≠ k; omega⟩
        · rw [World.size_alloc] at h
          have := F5.out.below.size; have := F5.out.lt
          exact ⟨by omega, by omega, fun x hx => by have := F5.out.mlt hx; omega⟩⟩)
      rw [show ((j + 1 : Nat) : Int) = (j : Int) + 1 by omega] at NX
      clear f9 hlm
      go_roundw
      case rel => exact NX.out
      case measure => simp [intOf]; omega
    · obtain rfl : N = j := by omega
      have t2 : decide ((N : Int) < (N : Int)) = false := decide_eq_false (by omega)
      have I0 := Lib.hid (show MkR w s N K N (.slice a1 N c1) (.int .i64 0) wr from ⟨0, ms, Nat.zero_le _, rfl, by omega, hf, hfr, hv, hvn⟩)
      clear hf hfr hv hvn hlen hpl
      go_wp2
      go_loopw [8, 50] (fun v i wr => MkR w s N K N v i wr) (fun v i _ => K - (intOf i).toNat)
      case atStart => exact I0.out
      case round =>
        clear I0
        obtain ⟨j, ms, hjB, rfl, hlen, hf, hfr, hv, hvn⟩ := hrel
        obtain ⟨a1, c1, rfl, hc1, hc2⟩ := hv.slice'
        obtain ⟨T, hT⟩ : ∃ z, N + j = z := ⟨_, rfl⟩
        have hpl : (ptrsOf (ms.map (·.1))).length = N + j := by rw [ptrs_len, List.length_map]; omega
        rw [hT] at hpl hlen
        rw [hpl] at hv hc1 hvn ⊢
        by_cases hjN : j < K
        · have t2 : decide ((j : Int) < (K : Int)) = true := decide_eq_true (by omega)
          have t2' : decide (j < K) = true := decide_eq_true hjN
          have P := Lib.hid (fs_pop hf)
          have V := Lib.hid hv; have VN := Lib.hid hvn; have FR := Lib.hid hfr
          have VL := Lib.hid (fun k (hk : In (.slice a1 T c1) k) => hv.lt hk)
          have HL := Lib.hid (And.intro hlen hpl)
          clear hf hv hvn hfr hlen hpl
          go_wp2_with fail
          refine P.out.mono ?_; rintro e w5 ⟨m, rfl, hf, hmlo, hbl⟩
          have F5 := Lib.hid hf
          have V5 := Lib.hid (V.out.upd (updFalse_of hbl) (fun _ _ => id))
          have ML := Lib.hid (And.intro hmlo hbl.size)
          have N1 := Lib.hid (Vec.one13p w5 35 (some ⟨m, 0, none⟩))
          clear hf hbl hmlo P
          go_wp2_with (at_builtin; refine wpList_append_vec (E := Elem.ptrs) rfl (.tmp 56) (.tmp 58) 57 rfl 35 i0 (.pointer none) 8 Try.underlying57 hi hz0 hz1 hz2 rfl (.slice a1 T c1) (.slice (some ⟨w5.heap.size, 0, none⟩) 1 1) (ptrsOf (ms.map (·.1))) [some ⟨m, 0, none⟩] rfl rfl (V5.out.alloc _) N1.out.seq ?_ ?_ ?_; (rw [HL.out.2]; simp only [maxLen, List.length_cons, List.length_nil]; omega); (rw [HL.out.2]; simp only [List.length_cons, List.length_nil]; omega); intro v' w9 hv1 hu1 hin1; have V1 := Lib.hid hv1; have U1 := Lib.hid hu1; have I1 := Lib.hid hin1; clear hv1 hu1 hin1)
          have hlm : ¬ ms.length < N := by have := HL.out.1; omega
          have f9 : FS w s s0 (ms ++ [(m, mPop)]) w9 := (F5.out.alloc _).upd U1.out (fun k hk => by
            obtain ⟨h1, h2, h3⟩ := VN.out k hk
            have h4 := VL.out k hk
            have h5 := ML.out.1
            exact ⟨h1, h2, fun x hx => by
              rcases List.mem_append.1 hx with hx | hx
              · exact h3 x hx
              · rw [List.mem_singleton.1 hx]; show m ≠ k; omega⟩)
          have NX := Lib.hid (show MkR w s N K N v' (.int .i64 ((j + 1 : Nat) : Int)) w9 from ⟨j + 1, ms ++ [(m, mPop)], by omega, rfl, by have := HL.out.1; rw [List.length_append, List.length_singleton]; omega, f9, FR.out.snoc (by rw [if_neg hlm]), by rw [List.map_append]; unfold ptrsOf; rw [List.map_append]; exact V1.out, fun k hk => by
            rcases I1.out k hk with h | h
            · obtain ⟨h1, h2, h3⟩ := VN.out k h
              have h4 := VL.out k h
              have h5 := ML.out.1
              exact ⟨h1, h2, fun x hx => by
                rcases List.mem_append.1 hx with hx | hx
                · exact h3 x hx
                · rw [List.mem_singleton.1 hx]; show m ≠ k; omega⟩
            · rw [World.size_alloc] at h
              have := F5.out.below.size; have := F5.out.lt
              exact ⟨by omega, by omega, fun x hx => by have := F5.out.mlt hx; omega⟩⟩)
          rw [show ((j + 1 : Nat) : Int) = (j : Int) + 1 by omega] at NX
          clear f9 hlm
          go_roundw
          case rel => exact NX.out
          case measure => simp [intOf]; omega
        · obtain rfl : j = K := by omega
          have t2 : decide ((j : Int) < (j : Int)) = false := decide_eq_false (by omega)
          obtain ⟨ids, hids⟩ : ∃ z, ms.map (·.1) = z := ⟨_, rfl⟩
          rw [hids] at hv hpl
          have hidl : ids.length = T := by rw [← hids, List.length_map]; exact hlen
          have hvi : ∀ k, In (.slice a1 T c1) k → w.heap.size ≤ k ∧ k ≠ s ∧ ∀ m ∈ ids, m ≠ k := fun k hk => by
            obtain ⟨h1, h2, h3⟩ := hvn k hk
            exact ⟨h1, h2, fun m hm => by rw [← hids] at hm; obtain ⟨y, hy, rfl⟩ := List.mem_map.1 hm; exact h3 y hy⟩
          have VI := Lib.hid hvi; have IL := Lib.hid (And.intro hidl hpl)
          by_cases hT0 : T = 0
          · have t3 : ((T : Int) == 0) = true := by rw [hT0]; rfl
            have t3' : (T == 0) = true := by rw [hT0]; rfl
            have A := Lib.hid (fs_all hf (by decide))
            rw [show (s0.L.length : Nat) = 0 from rfl] at A
            clear hf hfr hv hvn hlen hpl hids hidl hvi hT hT0 ZS
            go_wp2_with fail
            refine A.out.mono ?_; rintro e w5 ⟨a5, c5, rfl, _, hf, _, _⟩
            have B5 := Lib.hid hf.below
            clear hf
            go_wp2
            go_ret
            exact ⟨rfl, B5.out⟩
          have t3 : ((T : Int) == 0) = false := by rw [beq_eq_false_iff_ne]; omega
          have t3' : (T == 0) = false := by rw [beq_eq_false_iff_ne]; exact hT0
          have I1 := Lib.hid (show TuR w s N n ids (.slice a1 T c1) (.int .i64 0) wr from ⟨0, s0, ms, Nat.zero_le _, rfl, hf, hfr.inv, by decide, hids, hv.seq⟩)
          have hT40 : T ≤ 40 := by omega
          have hNT : N ≤ T := by omega
          clear hf hfr hv hvn hlen hpl hids hidl hvi hT ZS
          go_wp2
          go_loopw [69] (fun i wr => TuR w s N n ids (.slice a1 T c1) i wr) (fun i _ => n - (intOf i).toNat)
          case atStart => exact I1.out
          case round =>
            clear I1
            obtain ⟨t, S, ms, ht, rfl, hf, hi2, hn, hids, hv⟩ := hrel
            by_cases htn : t < n
            · obtain ⟨b2, off2, ea, c0⟩ := HB.out.cell wr hf.below t htn
              have hx8 := HB.out.le t htn
              obtain ⟨z, hz⟩ : ∃ z, L.getD t 0 = z := ⟨_, rfl⟩
              rw [hz] at c0 hx8
              subst ea
              obtain ⟨q, hq⟩ : ∃ q, z % T = q := ⟨_, rfl⟩
              have hqT : q < T := by rw [← hq]; exact Nat.mod_lt _ (by omega)
              obtain ⟨em5, em6⟩ := mod_of hq
              have q2 : decide ((t : Int) < (n : Int)) = true := decide_eq_true (by omega)
              have q2' : decide (t < n) = true := decide_eq_true htn
              have q3 : (0 : Int) ≤ (t : Int) := by omega
              have q4 : (t : Int) < (n : Int) := by omega
              have q5 : (0 : Int) ≤ (q : Int) := by omega
              have q6 : (q : Int) < (T : Int) := by omega
              have hql : q < ms.length := by have := IL.out.1; rw [← hids, List.length_map] at this; omega
              obtain ⟨⟨m, M⟩, hm⟩ : ∃ y, ms[q]? = some y := ⟨ms[q], List.getElem?_eq_getElem hql⟩
              obtain ⟨b3, off3, ea, d0⟩ := Vec.at13p hv (ids_at hids hm)
              subst ea
              have d0 : wr.cell? ⟨b3, off3 + q, none⟩ = some (.pointer (some ⟨m, 0, none⟩)) := d0
              have STP := Lib.hid (fs_step hf (show S.n ≤ _ by omega) hm)
              have NI := Lib.hid (hi2.step hf.g (hf.mo q _ hm).2.1 hm)
              have IDS := Lib.hid (And.intro hids (ids_set (M' := (stepE S M).2) hm))
              have HV := Lib.hid hv; have HN := Lib.hid hn
              have MM := Lib.hid (show m ∈ ids from List.mem_of_getElem? (ids_at hids hm))
              clear hf hi2 hn hids hv hq hql hm hz
              go_wp2_with fail
              refine STP.out.mono ?_; rintro e w7 ⟨rfl, hf, hst⟩
              have hv7 := HV.out.upd hst.upd (fun k hk => by
                obtain ⟨h1, h2, h3⟩ := VI.out k hk
                rintro (e | ⟨c, e⟩)
                · exact h3 m MM.out e.symm
                · exact h2 e.1)
              have NX := Lib.hid (show TuR w s N n ids (.slice (some ⟨b3, off3, none⟩) T c1) (.int .i64 ((t + 1 : Nat) : Int)) w7 from ⟨t + 1, _, _, by omega, rfl, hf, NI.out, by have := (step_n S M).2; have := HN.out; omega, by rw [IDS.out.2]; exact IDS.out.1, hv7⟩)
              rw [show ((t + 1 : Nat) : Int) = (t : Int) + 1 by omega] at NX
              clear hf hst hv7 STP
              go_wp2
              go_roundw
              case rel => exact NX.out
              case measure => simp [intOf]; omega
            · obtain rfl : t = n := by omega
              have q2 : decide ((t : Int) < (t : Int)) = false := decide_eq_false (by omega)
              have hmm := @run_makeMap Try.prog
              obtain ⟨bm, hbm⟩ : ∃ z, wr.heap.size = z := ⟨_, rfl⟩
              have F := Lib.hid hf; have IV := Lib.hid hi2; have IDS := Lib.hid hids; have HV := Lib.hid hv; have HBM := Lib.hid hbm
              have hSn : ManyB S := by show S.n ≤ _; omega
              have A := Lib.hid (fun o => fs_all (hf.alloc o) hSn)
              obtain ⟨sl, hsl⟩ : ∃ z, S.L.length = z := ⟨_, rfl⟩
              rw [hsl] at A
              have HSL := Lib.hid (And.intro hsl (show sl ≤ 64 by rw [← hsl]; exact hf.g.len))
              have hs64 : sl ≤ 64 := HSL.out.2
              clear hf hi2 hn hids hv hSn hsl
              go_wp2_with fail
              refine (A.out _).mono ?_; rintro e w3 ⟨a3, c3, rfl, hq, hf, hin, hb⟩
              have hD0 : w3.ownsMap Try.prog 3 (plainElem Try.prog 3) bm 0 (.map [] : DataW Unit) := ownsMap_upd (by rw [← HBM.out]; exact World.ownsMap_made _ _ _ _) (updFalse_of hb) id
              have I3 := Lib.hid (show CoR w3 bm sl 0 (fun t x => if x ∈ S.L.take t then 1 else 0) (.int .i64 0) w3 from ⟨0, 0, .map [], Nat.zero_le _, rfl, Upd.refl _ _, hD0, by omega, by simpa using cd_nil⟩)
              have Q3 := Lib.hid hq; have F3 := Lib.hid hf
              have hvw : ∀ k, In (.slice a1 T c1) k → k < wr.heap.size := fun k hk => by
                rcases Nat.eq_zero_or_pos T with h0 | h0
                · omega
                · have hid : 0 < ids.length := by rw [IL.out.1]; exact h0
                  obtain ⟨b9, off9, ea, d9⟩ := Vec.at13p HV.out (t := 0) (m := ids[0]) (List.getElem?_eq_getElem hid)
                  subst ea
                  have e := in_blk hk
                  subst e
                  exact World.block_lt_of_cell? wr _ d9
              have V3 := Lib.hid (show Seq Elem.ptrs w3 (.slice a1 T c1) (ptrsOf ids) from (HV.out.alloc _).below (Nat.le_refl _) hb)
              have BV := Lib.hid (show ∀ k, In (.slice a1 T c1) k → k ≠ bm from fun k hk e => by have := hvw k hk; have := HBM.out; omega)
              have BQ := Lib.hid (show ∀ k, In (.slice a3 sl c3) k → k ≠ bm from fun k hk e => by have := hin k hk; rw [World.size_alloc] at this; have := HBM.out; omega)
              have BF := Lib.hid (show w.heap.size ≤ bm ∧ bm ≠ s ∧ ∀ x ∈ ms, x.1 ≠ bm from ⟨by have := F.out.below.size; have := HBM.out; omega, by have := F.out.lt; have := HBM.out; omega, fun x hx => by have := F.out.mlt hx; have := HBM.out; omega⟩)
              clear hq hf hin hb hD0 hvw A hmm hbm
              go_wp2
              go_loopw [86] (fun i wr => CoR w3 bm sl 0 (fun t x => if x ∈ S.L.take t then 1 else 0) i wr) (fun i _ => sl - (intOf i).toNat)
              case atStart => exact I3.out
              case round =>
                clear I3
                obtain ⟨u, e0, D, hu, rfl, hup, hD, he, hcd⟩ := hrel
                by_cases hun : u < sl
                · obtain ⟨b4, off4, y4, ea, hy, _, d0⟩ := Vec.at13 (Q3.out.upd hup (fun k hk => BQ.out k hk)) (t := u) (by rw [toI_len, HSL.out.1]; exact hun)
                  subst ea
                  obtain ⟨p, hp⟩ : ∃ p, S.L[u]? = some p := ⟨S.L[u]'(by rw [HSL.out.1]; exact hun), List.getElem?_eq_getElem _⟩
                  have hyp : y4 = (p : Int) := by rw [toI_at hp] at hy; injection hy with hy; exact hy.symm
                  subst hyp
                  have hp64 : p < 64 := F3.out.g.lt p (List.mem_of_getElem? hp)
                  have ht1 : S.L.take (u + 1) = S.L.take u ++ [p] := by rw [List.take_add_one, hp]; rfl
                  have hnew : p ∉ S.L.take u := by
                    have nd := F3.out.g.nd
                    obtain ⟨hlt, e⟩ := List.getElem?_eq_some_iff.1 hp
                    rw [← List.take_append_drop u S.L, List.nodup_append] at nd
                    exact fun hm => nd.2.2 p hm p (by rw [List.drop_eq_getElem_cons hlt, e]; exact List.mem_cons_self ..) rfl
                  have hcd : CD D (fun x => if x ∈ S.L.take u then 1 else 0) := hcd
                  have hAT := hcd.att p
                  simp only [if_neg hnew] at hAT
                  have HKEY := keyOf_int_mk (P := Try.prog) Try.underlying3 (q := .i64) (a := (p : Int)) (by simp [Lit.wf, IntKind.min, IntKind.max, IntKind.signed, IntKind.bits]; omega)
                  have LK := lookup_i64 hD keyI Try.underlying58 Try.underlying3 (zeroI13 _) HKEY hAT
                  have HKEY := Lib.hid HKEY
                  have MD := Lib.hid hD; have CDH := Lib.hid hcd; have UP := Lib.hid hup; have HE := Lib.hid (And.intro he (show e0 < maxLen by unfold maxLen; omega)); have HT1 := Lib.hid (And.intro ht1 hnew)
                  have q2 : decide ((u : Int) < (sl : Int)) = true := decide_eq_true (by omega)
                  have q2' : decide (u < sl) = true := decide_eq_true hun
                  have q3 : (0 : Int) ≤ (u : Int) := by omega
                  have q4 : (u : Int) < (sl : Int) := by omega
                  clear hup hD he hcd hy hp ht1 hnew hAT
                  go_wp2_with (at_mapUpdate; refine wpList_mapUpdate_in _ rfl _ _ _ 58 rfl 3 3 keyI Try.underlying58 _ bm _ D rfl MD.out HE.out.2 _ _ _ rfl rfl HKEY.out _ [] (plainElem_int Try.underlying3 (a := 1) (by decide)) ?_; intro w9 hown1 hturn1; have M9 := Lib.hid hown1; have U9 := Lib.hid (UP.out.trans (upd_turned hturn1)); clear hown1 hturn1)
                  have hF : (fun x => if x = p then (if x ∈ S.L.take u then 1 else 0) + 1 else (if x ∈ S.L.take u then 1 else 0)) = (fun x => if x ∈ S.L.take (u + 1) then 1 else 0) := by
                    funext x
                    rw [HT1.out.1]
                    by_cases hxp : x = p
                    · subst hxp
                      rw [if_pos rfl, if_neg HT1.out.2, if_pos (List.mem_append.2 (.inr (List.mem_singleton.2 rfl)))]
                    · rw [if_neg hxp]
                      have : (x ∈ S.L.take u ++ [p]) ↔ x ∈ S.L.take u := ⟨fun h => by rcases List.mem_append.1 h with h | h; exact h; exact absurd (List.mem_singleton.1 h) hxp, fun h => List.mem_append.2 (.inl h)⟩
                      simp only [this]
                  have hcd2 := CDH.out.put MD.out.isMap p (v := 1) (by simp only [if_neg HT1.out.2]; rfl)
                  rw [hF] at hcd2
                  have NX := Lib.hid (show CoR w3 bm sl 0 (fun t x => if x ∈ S.L.take t then 1 else 0) (.int .i64 ((u + 1 : Nat) : Int)) w9 from ⟨u + 1, e0 + 1, _, by omega, rfl, U9.out, M9.out, by have := HE.out.1; omega, hcd2⟩)
                  rw [show ((u + 1 : Nat) : Int) = (u : Int) + 1 by omega] at NX
                  clear hF hcd2
                  go_roundw
                  case rel => exact NX.out
                  case measure => simp [intOf]; omega
                · obtain rfl : u = sl := by omega
                  have q2 : decide ((u : Int) < (u : Int)) = false := decide_eq_false (by omega)
                  have hF0 : (fun x => if x ∈ S.L.take u then 1 else 0) = (fun x => (if x ∈ S.L then 1 else 0) + popd (ms.take 0) x) := by
                    funext x
                    rw [← HSL.out.1, List.take_length]
                    simp [popd]
                  have hcd : CD D (fun x => if x ∈ S.L.take u then 1 else 0) := hcd
                  rw [hF0] at hcd
                  have I5 := Lib.hid (show CoR w3 bm T 100 (fun t x => (if x ∈ S.L then 1 else 0) + popd (ms.take t) x) (.int .i64 0) wr from ⟨0, e0, D, Nat.zero_le _, rfl, hup, ownsMap_upd hD (Upd.refl (fun _ => False) _) id, by omega, hcd⟩)
                  clear hup hD he hcd hF0
                  go_wp2
                  go_loopw [97] (fun i wr => CoR w3 bm T 100 (fun t x => (if x ∈ S.L then 1 else 0) + popd (ms.take t) x) i wr) (fun i _ => T - (intOf i).toNat)
                  case atStart => exact I5.out
                  case round =>
                    clear I5
                    obtain ⟨u, e0, D, hu, rfl, hup, hD, he, hcd⟩ := hrel
                    by_cases hun : u < T
                    · have hul : u < ms.length := by have := IL.out.1; rw [← IDS.out, List.length_map] at this; omega
                      obtain ⟨⟨m, M⟩, hm⟩ : ∃ y, ms[u]? = some y := ⟨ms[u], List.getElem?_eq_getElem hul⟩
                      have fr := fs_upds F3.out hup BF.out.1 BF.out.2.1 BF.out.2.2
                      obtain ⟨b4, off4, ea, d0⟩ := Vec.at13p (V3.out.upd hup (fun k hk => BV.out k hk)) (ids_at IDS.out hm)
                      subst ea
                      have hcd : CD D (fun x => (if x ∈ S.L then 1 else 0) + popd (ms.take u) x) := hcd
                      have hnx := popd_next hm
                      have hlo : -1 ≤ M.top ∧ M.top ≤ 63 := (fr.mo u _ hm).2.1.lo
                      have q2 : decide ((u : Int) < (T : Int)) = true := decide_eq_true (by omega)
                      have q2' : decide (u < T) = true := decide_eq_true hun
                      have q3 : (0 : Int) ≤ (u : Int) := by omega
                      have q4 : (u : Int) < (T : Int) := by omega
                      have DN := Lib.hid (fs_done fr hm)
                      have PL := Lib.hid (fs_place fr hm)
                      have NXs := Lib.hid (fun (h : ∀ x, isPopped x (m, M) = false) => (show CoR w3 bm T 100 (fun t x => (if x ∈ S.L then 1 else 0) + popd (ms.take t) x) (.int .i64 ((u + 1 : Nat) : Int)) _ from ⟨u + 1, e0, D, by omega, rfl, hup, ownsMap_upd hD (Upd.refl (fun _ => False) _) id, by omega, by
                        have e : (fun x => (if x ∈ S.L then 1 else 0) + popd (ms.take (u + 1)) x) = (fun x => (if x ∈ S.L then 1 else 0) + popd (ms.take u) x) := by
                          funext x; rw [hnx x, h x]; rfl
                        show CD D (fun x => (if x ∈ S.L then 1 else 0) + popd (ms.take (u + 1)) x)
                        rw [e]; exact hcd⟩))
                      rw [show ((u + 1 : Nat) : Int) = (u : Int) + 1 by omega] at NXs
                      have PU := Lib.hid (fun h => (IV.out.pu u _ hm h).1)
                      have PO := Lib.hid (IV.out.po u _ hm)
                      by_cases huN : u < N
                      · have t5 : decide ((u : Int) < (N : Int)) = true := decide_eq_true (by omega)
                        have t5' : decide (u < N) = true := decide_eq_true huN
                        have NX := Lib.hid (NXs.out (fun x => by simp only [isPopped, show M.push = true from PU.out huN]; rfl))
                        clear hup hD he hcd hnx fr hm hul
                        go_wp2
                        go_roundw
                        case rel => exact NX.out
                        case measure => simp [intOf]; omega
                      have t5 : decide ((u : Int) < (N : Int)) = false := decide_eq_false (by omega)
                      have t5' : decide (u < N) = false := decide_eq_false huN
                      have hpf : M.push = false := PO.out (by omega)
                      by_cases hov : M.over = true
                      · have epl : placeE M = M.top := by unfold placeE; rw [hpf, hov]; rfl
                        rw [hov] at DN
                        rw [epl] at PL
                        by_cases htop : M.top < 0
                        · have t6 : decide (M.top < 0) = true := decide_eq_true htop
                          have NX := Lib.hid (NXs.out (fun x => by
                            have : ¬ (M.top = (x : Int)) := by omega
                            simp [isPopped, this]))
                          clear hup hD he hcd hnx fr hm hul epl hov hpf
                          go_wp2_with fail
                          refine DN.out.mono ?_; rintro e w6 ⟨rfl, k⟩; obtain rfl := k.symm; clear k
                          go_wp2_with fail
                          refine PL.out.mono ?_; rintro e w6 ⟨rfl, k⟩; obtain rfl := k.symm; clear k
                          go_wp2
                          go_roundw
                          case rel => exact NX.out
                          case measure => simp [intOf]; omega
                        · obtain ⟨q, hq⟩ := Int.eq_ofNat_of_zero_le (show 0 ≤ M.top by omega)
                          have hq64 : q < 64 := by omega
                          rw [hq] at PL
                          have t6 : decide ((q : Int) < 0) = false := decide_eq_false (by omega)
                          obtain ⟨c, hc⟩ : ∃ z, (if q ∈ S.L then 1 else 0) + popd (ms.take u) q = z := ⟨_, rfl⟩
                          have hc99 : c ≤ 99 := by
                            rw [← hc]
                            have h1 : popd (ms.take u) q ≤ u := Nat.le_trans List.countP_le_length (by rw [List.length_take]; omega)
                            have : (if q ∈ S.L then 1 else 0) ≤ 1 := by split <;> omega
                            omega
                          have hAT : D.atKey (.int .i64 (q : Int)) (.lit (.int .i64 0)) = .lit (.int .i64 (c : Int)) := by rw [← hc]; exact hcd.att q
                          have HKEY := keyOf_int_mk (P := Try.prog) Try.underlying3 (q := .i64) (a := (q : Int)) (by simp [Lit.wf, IntKind.min, IntKind.max, IntKind.signed, IntKind.bits]; omega)
                          have LK := lookup_i64 hD keyI Try.underlying58 Try.underlying3 (zeroI13 _) HKEY hAT
                          have HKEY := Lib.hid HKEY
                          have hcd2 := hcd.put hD.isMap q (v := (c : Int) + 1) (by show _ = (((if q ∈ S.L then 1 else 0) + popd (ms.take u) q + 1 : Nat) : Int); rw [hc]; omega)
                          have hF : (fun x => if x = q then (if x ∈ S.L then 1 else 0) + popd (ms.take u) x + 1 else (if x ∈ S.L then 1 else 0) + popd (ms.take u) x) = (fun x => (if x ∈ S.L then 1 else 0) + popd (ms.take (u + 1)) x) := by
                            funext x
                            rw [hnx x]
                            by_cases hxq : x = q
                            · subst hxq
                              have : isPopped x (m, M) = true := by simp [isPopped, hpf, hov, hq]
                              rw [if_pos rfl, this]; simp [b2n]; omega
                            · have h1 : ¬ ((q : Int) = (x : Int)) := by omega
                              have : isPopped x (m, M) = false := by simp [isPopped, hq, h1]
                              rw [if_neg hxq, this]; simp [b2n]
                          rw [hF] at hcd2
                          have WFC := Lib.hid (plainElem_int (H := Unit) (P := Try.prog) Try.underlying3 (q := .i64) (a := (c : Int) + 1) (by simp [Lit.wf, IntKind.min, IntKind.max, IntKind.signed, IntKind.bits]; omega))
                          have MD := Lib.hid hD; have CD2 := Lib.hid hcd2; have UP := Lib.hid hup; have HE := Lib.hid (And.intro he (show e0 < maxLen by unfold maxLen; omega))
                          clear hup hD he hcd hcd2 hF hnx fr hm hul epl hov hpf htop hq hc hAT hlo
                          go_wp2_with fail
                          refine DN.out.mono ?_; rintro e w6 ⟨rfl, k⟩; obtain rfl := k.symm; clear k
                          go_wp2_with fail
                          refine PL.out.mono ?_; rintro e w6 ⟨rfl, k⟩; obtain rfl := k.symm; clear k
                          go_wp2_with fail
                          refine PL.out.mono ?_; rintro e w6 ⟨rfl, k⟩; obtain rfl := k.symm; clear k
                          go_wp2_with (at_mapUpdate; refine wpList_mapUpdate_in _ rfl _ _ _ 58 rfl 3 3 keyI Try.underlying58 _ bm _ D rfl MD.out HE.out.2 _ _ _ rfl rfl HKEY.out _ [] WFC.out ?_; intro w9 hown1 hturn1; have M9 := Lib.hid hown1; have U9 := Lib.hid (UP.out.trans (upd_turned hturn1)); clear hown1 hturn1)
                          have NX := Lib.hid (show CoR w3 bm T 100 (fun t x => (if x ∈ S.L then 1 else 0) + popd (ms.take t) x) (.int .i64 ((u + 1 : Nat) : Int)) w9 from ⟨u + 1, e0 + 1, _, by omega, rfl, U9.out, M9.out, by have := HE.out.1; omega, CD2.out⟩)
                          rw [show ((u + 1 : Nat) : Int) = (u : Int) + 1 by omega] at NX
                          go_roundw
                          case rel => exact NX.out
                          case measure => simp [intOf]; omega
                      · have hov' : M.over = false := by simpa using hov
                        rw [hov'] at DN
                        have NX := Lib.hid (NXs.out (fun x => by simp [isPopped, hov']))
                        clear hup hD he hcd hnx fr hm hul hov hov' hpf
                        go_wp2_with fail
                        refine DN.out.mono ?_; rintro e w6 ⟨rfl, k⟩; obtain rfl := k.symm; clear k
                        go_wp2
                        go_roundw
                        case rel => exact NX.out
                        case measure => simp [intOf]; omega
                    · obtain rfl : u = T := by omega
                      have q2 : decide ((u : Int) < (u : Int)) = false := decide_eq_false (by omega)
                      have hfin : (fun x => (if x ∈ S.L then 1 else 0) + popd (ms.take u) x) = doneP N ms := by
                        funext x
                        have : ms.take u = ms := by rw [← IL.out.1, ← IDS.out, List.length_map, List.take_length]
                        rw [this]; exact IV.out.ct x
                      have hcd : CD D (fun x => (if x ∈ S.L then 1 else 0) + popd (ms.take u) x) := hcd
                      rw [hfin] at hcd
                      have fr := fs_upds F3.out hup BF.out.1 BF.out.2.1 BF.out.2.2
                      have UP := Lib.hid hup; have MD := Lib.hid hD; have CDH := Lib.hid hcd; have FR := Lib.hid fr
                      have VR := Lib.hid (V3.out.upd hup (fun k hk => BV.out k hk))
                      clear hup hD he hcd hfin fr
                      go_wp2
                      go_loopw [122] (fun i wx => ∃ t : Nat, t ≤ N ∧ i = .int .i64 (t : Int) ∧ wr = wx) (fun i _ => N - (intOf i).toNat)
                      case atStart => exact ⟨0, Nat.zero_le _, rfl, rfl⟩
                      case round =>
                        obtain ⟨t, ht, rfl, rfl⟩ := hrel
                        by_cases htN : t < N
                        · have htl : t < ms.length := by have := IL.out.1; rw [← IDS.out, List.length_map] at this; omega
                          obtain ⟨⟨m, M⟩, hm⟩ : ∃ y, ms[t]? = some y := ⟨ms[t], List.getElem?_eq_getElem htl⟩
                          obtain ⟨b4, off4, ea, d0⟩ := Vec.at13p VR.out (ids_at IDS.out hm)
                          subst ea
                          have DN := Lib.hid (fs_done FR.out hm)
                          have hdp : doneP N ms t = if M.over = true then 1 else 0 := by unfold doneP; rw [hm]; simp [htN]
                          have hAT := CDH.out.att t
                          rw [hdp] at hAT
                          have HKEY := keyOf_int_mk (P := Try.prog) Try.underlying3 (q := .i64) (a := (t : Int)) (by simp [Lit.wf, IntKind.min, IntKind.max, IntKind.signed, IntKind.bits]; omega)
                          have q2 : decide ((t : Int) < (N : Int)) = true := decide_eq_true (by omega)
                          have q2' : decide (t < N) = true := decide_eq_true htN
                          have q3 : (0 : Int) ≤ (t : Int) := by omega
                          have q4 : (t : Int) < (u : Int) := by omega
                          clear hm htl hdp
                          cases hov : M.over with
                          | true =>
                            rw [hov] at DN hAT
                            have LK := lookup_i64 MD.out keyI Try.underlying58 Try.underlying3 (zeroI13 _) HKEY (c := 1) (by rw [hAT]; rfl)
                            clear hov hAT
                            go_wp2_with fail
                            refine DN.out.mono ?_; rintro e w6 ⟨rfl, k⟩; obtain rfl := k.symm; clear k
                            go_wp2
                            go_roundw
                            case rel => exact ⟨t + 1, by omega, by go_num, by trivial⟩
                            case measure => simp [intOf]; omega
                          | false =>
                            rw [hov] at DN hAT
                            have LK := lookup_i64 MD.out keyI Try.underlying58 Try.underlying3 (zeroI13 _) HKEY (c := 0) (by rw [hAT]; rfl)
                            clear hov hAT
                            go_wp2_with fail
                            refine DN.out.mono ?_; rintro e w6 ⟨rfl, k⟩; obtain rfl := k.symm; clear k
                            go_wp2
                            go_roundw
                            case rel => exact ⟨t + 1, by omega, by go_num, by trivial⟩
                            case measure => simp [intOf]; omega
                        · obtain rfl : t = N := by omega
                          have q2 : decide ((t : Int) < (t : Int)) = false := decide_eq_false (by omega)
                          go_wp2_with (first
                            | (at_range; refine wpList_range_own _ rfl _ 58 rfl 3 3 keyI Try.underlying58 _ bm _ _ rfl MD.out ?_; intro w5 hrg5 hg5 hs5)
                            | fail)
                          go_frame
                          obtain ⟨r, hr⟩ : ∃ z, wr.heap.size = z := ⟨_, rfl⟩
                          rw [hr] at hrg5 ⊢
                          have u5 : Upd (fun k => k = bm ∨ k = r) w3 w5 := (UP.out.mono (fun k h => .inl h)).trans ((Upd.refl _ wr).grown hg5 (fun k hk => by cases hk))
                          have BR := Lib.hid (show w3.heap.size ≤ r by rw [← hr]; exact UP.out.size)
                          have I7 := Lib.hid (show ReR w3 bm r _ D w5 from ⟨_, _, hrg5, u5⟩)
                          clear hrg5 hg5 hs5 u5 hr
                          go_loopw [24] (fun _ wx => ReR w3 bm r _ D wx) (fun _ wx => wx.rangeLeft bm r)
                          case atStart => exact I7.out
                          case round =>
                            clear I7
                            obtain ⟨left, cnt, hrg, hu7⟩ := hrel
                            have RG := Lib.hid hrg; have U7 := Lib.hid hu7
                            clear hrg hu7
                            go_wp2_with (first
                              | (at_next; refine wpList_next_ranges_ii _ rfl _ rfl 3 3 .i64 .i64 keyI Try.underlying3 Try.underlying3 bm r _ D left cnt rfl RG.out ?_ ?_)
                              | fail)
                            · intro hc0 hl0
                              go_wp2
                              go_ret
                              refine ⟨rfl, F3.out.below.trans (U7.out.below (fun k hk => ?_) F3.out.below.size)⟩
                              rcases hk with rfl | rfl
                              · exact BF.out.1
                              · exact Nat.le_trans F3.out.below.size BR.out
                            · intro x c w7 cnt7 hwx hwc hlx hat hrg7 hlt7 hg7 hs7 hen
                              obtain ⟨q, rfl, hq0⟩ := CDH.out.pos x c hat
                              have hqt : q < t := by
                                unfold doneP at hq0
                                split at hq0
                                · split at hq0
                                  · rename_i h; exact h.1
                                  · omega
                                · omega
                              have t7 : decide ((q : Int) < 0) = false := decide_eq_false (by omega)
                              have t8 : decide ((t : Int) ≤ (q : Int)) = false := decide_eq_false (by omega)
                              have t8' : decide (t ≤ q) = false := decide_eq_false (by omega)
                              have RN := Lib.hid (show ReR w3 bm r _ D w7 from ⟨_, _, hrg7, U7.out.trans ((upd_grownBy hg7).mono (fun k h => .inr h))⟩)
                              have hme : w7.rangeLeft bm r < wr.rangeLeft bm r := by rw [hrg7.left_eq, RG.out.left_eq]; exact hlt7
                              have ME := Lib.hid hme
                              clear hat hrg7 hlt7 hg7 hs7 hwx hwc hlx hq0 hqt hme
                              go_wp2
                              go_roundw
                              case rel => exact RN.out
                              case measure => exact ME.out
theorem walk (w : World) {a : Option Addr} {n cap : Nat} (l : List Int) (h : NumsAt w .u8 (.slice a n cap) l) (x : Int) (h1 : (Lit.int .u8 x).wf = true) (y : Int) (h2 : (Lit.int .u8 y).wf = true) :
    Calls Try.prog 4 #[.slice a n cap, .int .u8 x, .int .u8 y] w fun e w' => e = .returned (.bool true) ∧ Below w.heap.size w w' := by
  obtain ⟨L, hB⟩ := h.bytesIn
  have b1 := u8_bd h1
  have b2 := u8_bd h2
  obtain ⟨x, rfl⟩ := Int.eq_ofNat_of_zero_le b1.1
  obtain ⟨y, rfl⟩ := Int.eq_ofNat_of_zero_le b2.1
  by_cases hl : n ≤ 300
  · exact walk_short w L hB hl x y _ _ (by omega) (by omega) rfl rfl
  · have t0 : decide ((300 : Int) < (n : Int)) = true := decide_eq_true (by omega)
    have hm := hB.max
    clear hB h hl
    go_enter Try.func4, Try.ntmps4
    go_wp2_with fail
    refine (alive_any w).mono ?_; rintro e w1 ⟨rfl, hb⟩
    have B1 := Lib.hid hb
    clear hb
    go_wp2
    go_ret
    exact ⟨rfl, B1.out⟩
end Go.Proofs.Ytgaecgijmnkdgaa.stackOnce
