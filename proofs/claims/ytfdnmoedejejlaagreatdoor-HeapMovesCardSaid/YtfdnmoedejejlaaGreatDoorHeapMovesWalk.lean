/- The law HeapMoves, walked. -/
import Derived.Test.YtfdnmoedejejlaaGreatDoorAlives12
import Derived.Test.YtfdnmoedejejlaaGreatDoorGets12
import Derived.Test.YtfdnmoedejejlaaGreatDoorMoves12
import Derived.Test.YtfdnmoedejejlaaGreatDoorFulls12
import Derived.Test.YtfdnmoedejejlaaGreatDoorRecs12
import Derived.Test.YtfdnmoedejejlaaGreatDoorSmalls12
import Derived.Deep.RegionHeld3
namespace Go.Proofs.YtfdnmoedejejlaaGreatDoor.heapMoves
open Go.RowKit ListMath PageMath GeoMath SegMath ClassMath HeapMath QueueMath ArenaMath
set_option linter.unusedVariables false

theorem u64_bd {n : Int} (h : (Lit.int .u64 n).wf = true) : 0 ≤ n ∧ n ≤ 18446744073709551615 := by
  simp [Lit.wf, IntKind.min, IntKind.max, IntKind.signed, IntKind.bits] at h; omega
theorem infoSeg : (Tryz.prog.info? 162).isSome = true := by kernel_rfl
theorem same_seg (w : World) (a : Addr) : (binOp .neq 67 (.pointer (some a)) (.pointer (some a))).run Tryz.prog w = .ok (.bool false) w := by
  have hi := infoSeg
  cases hj : Tryz.prog.info? 162 with
  | none => rw [hj] at hi; cases hi
  | some j => exact run_neq_ptr_same a Tryz.underlying67 hj
theorem seq_lt {α : Type} {E : Elem α} {w : World} {v : Value} {l : List α} (h : Seq E w v l) (hl : l ≠ []) (hE : 0 < E.size) {k : Nat} (hk : In v k) : k < w.heap.size := by
  rcases h with ⟨b, off, cap, rfl, hc⟩ | ⟨e, _⟩
  · have hkb : b = k := by injection hk
    subst hkb
    have hpos : 0 < (E.all l).length := by
      rw [E.length_all]
      exact Nat.mul_pos (List.length_pos_iff.2 hl) hE
    exact World.block_lt_of_cell? w _ (hc 0 _ (List.getElem?_eq_getElem hpos))
  · exact absurd e hl
/-- So many segments have moved. -/
def SegR (w : World) {C : SgC w} (K : HpC w C) (h o p g q : Nat) (own : Nat → Prop) (L U : List Nat) (A : St) (B : List SB) (v vs : Value) (S : Nat → Prop) (i : Value) (wr : World) : Prop :=
  ∃ (j : Nat) (O1 O2 : Nat → Prop) (T : List SB) (Q1 Q2 : Nat → QR), j ≤ B.length ∧ i = .int .i64 (j : Int) ∧ Two C K h o p g q O1 O2 own L A (B.drop j) [] T Q1 Q2 S wr ∧ (T.map fun b => b.X).map bare = ((B.take j).map fun b => b.X).map bare ∧ (B ≠ [] → Seq Elem.ptrs wr vs (B.map fun b => some ⟨b.sp, 0, none⟩)) ∧ Vec Elem.u64s wr v U
/-- So many have been given back by the other heap. -/
def BackR (w : World) {C : SgC w} (K : HpC w C) (h o p g q : Nat) (O1 : Nat → Prop) (Q1 : Nat → QR) (U : List Nat) (v i : Value) (wr : World) : Prop :=
  ∃ (j : Nat) (H : HS) (A : St) (L : List Nat), j ≤ U.length ∧ i = .int .i64 (j : Int) ∧ PH C K o 9 h 7 p g q Q1 O1 H A L (U.drop j) v U wr ∧ Busy H ∧ (∀ X ∈ H.B, ∀ o ∈ X.L, o.P.cw = 0)
/-- Blocks came, asl sizes were asked for. -/
def GetR (w : World) {C : SgC w} (K : HpC w C) (h o p g q n : Nat) (O2 : Nat → Prop) (v i : Value) (wr : World) : Prop :=
  ∃ (j : Nat) (H : HS) (A : St) (L U : List Nat), j ≤ n ∧ i = .int .i64 (j : Int) ∧ PH C K h 7 o 9 p g q (fun _ => q0) O2 H A L U v U wr ∧ Busy H ∧ Plain H ∧ A.r ≤ j ∧ U.length ≤ j
set_option maxHeartbeats 8000000 in
set_option maxRecDepth 100000 in
theorem walk_of (w : World) {C : SgC w} (K : HpC w C) (F : Fo w) {a : Option Addr} {n cap : Nat} (l : List Int) (hl : NumsAt w .u64 (.slice a n cap) l) :
    Calls Tryz.prog 6 #[.slice a n cap] w fun e w' => e = .returned (.bool true) ∧ Below w.heap.size w w' := by
  obtain rfl : n = l.length := by obtain ⟨_, _, e, _⟩ := hl; injection e
  have HL := Lib.hid hl
  have AL := Lib.hid (alive_h w K F)
  obtain ⟨i0, hi, hz0, hz1, hz2⟩ := info_parts infoU64
  obtain ⟨tb, htb⟩ : ∃ tb, decide (100 < (l.length : Int)) = tb := ⟨_, rfl⟩
  have htb' : decide (100 < l.length) = tb := by rw [← htb]; exact decide_eq_decide.2 (by omega)
  have HT := Lib.hid htb
  clear hl
  go_enter Tryz.func6, Tryz.ntmps6
  go_wp2_with fail
  refine AL.out.mono ?_; rintro e w1 ⟨rfl, hb⟩
  have B1 := Lib.hid hb
  clear hb
  go_wp2_with fail
  refine (made_any (K := K) B1.out (segs := 16) (lim := 16) (by decide) (by decide) (by decide)).mono ?_; rintro e w2 ⟨h, p, g, q, rfl, z⟩
  obtain ⟨L0, hL0, zx⟩ := z.ox
  have Z2 := Lib.hid zx
  clear z zx hL0
  go_wp2_with fail
  refine (K.new w2 Z2.out.below (p := p) (q := q) (id := 9) (by decide) (by decide)).mono ?_; rintro e w3 ⟨o, O2, rfl, hp2, hO2, hb⟩
  have hph : PH C K h 7 o 9 p g q (fun _ => q0) O2 h0 ⟨16, 16, [], [], 0⟩ L0 [] (.slice none 0 0) [] w3 :=
    ⟨(Z2.out.ours hb).forget fun k hk => hk.elim (fun e => .inr ⟨hO2 k e, (K.num hp2).2.1 k e⟩) fun e => (by cases e), Vec.nil _, (fun k hk => by cases hk), (fun k hk => by cases hk), fun k hk => Nat.le_trans Z2.out.below.size (hO2 k hk), hp2, GoodH.zero⟩
  have Z3 := Lib.hid hph
  have I0 := Lib.hid (show GetR w K h o p g q l.length O2 (.slice none 0 0) (.int .i64 0) w3 from ⟨0, _, _, _, _, Nat.zero_le _, rfl, Z3.out, ⟨fun X hX => (List.not_mem_nil hX).elim, fun X hX => (List.not_mem_nil hX).elim⟩, ⟨fun X hX => (List.not_mem_nil hX).elim, fun X hX => (List.not_mem_nil hX).elim⟩, Nat.le_refl _, Nat.zero_le _⟩)
  clear hph hp2 hO2 hb
  cases tb with
  | true =>
    go_wp2
    go_ret
    exact ⟨rfl, Z3.out.z.below⟩
  | false =>
    have hn100 : l.length ≤ 100 := by have := of_decide_eq_false HT.out; omega
    go_wp2_with fail
    clear htb htb'
    go_loopw [9, 58] (fun v i wr => GetR w K h o p g q l.length O2 v i wr) (fun _ i _ => l.length - (intOf i).toNat)
    case atStart => exact I0.out
    case round =>
      clear I0
      obtain ⟨j, H, A, L, U, hj, rfl, hm, hbz, hpl, hr, hU⟩ := hrel
      obtain ⟨a', cap', rfl, hc1, hc2⟩ := hm.vec.slice'
      by_cases hlt : j < l.length
      · obtain ⟨a9, cap9, e, _, _, _, h4, h5⟩ := HL.out.below (Nat.le_refl _) hm.z.below
        injection e with e1 _ e3
        subst e1 e3
        obtain ⟨b, off, rfl, hcell⟩ := h4 j hlt
        have hbd := u64_bd (h5 (l.getD j 0) (by simp [List.getD_eq_getElem?_getD, hlt]))
        obtain ⟨x, hx⟩ : ∃ x, l.getD j 0 = x := ⟨_, rfl⟩
        rw [hx] at hcell hbd
        clear h4 h5 hx
        obtain ⟨x, rfl⟩ := Int.eq_ofNat_of_zero_le hbd.1
        have hx64 : x ≤ 18446744073709551615 := by omega
        have HM := Lib.hid hm; have HB := Lib.hid (And.intro hbz hpl); have HR := Lib.hid (And.intro hr hU)
        clear hm hbz hpl hr hU hbd
        have t1 : decide ((j : Int) < (l.length : Int)) = true := decide_eq_true (by omega)
        go_wp2_with fail
        refine (get_any F HM.out.z (by have := HR.out.1; omega) x hx64).mono ?_; rintro e w4 ⟨y, us, ok, P, H', A', L', rfl, gt⟩
        have GT := Lib.hid gt
        clear gt
        cases ok with
        | true =>
          obtain ⟨_, hy, y4, _⟩ := GT.out.hit rfl
          have hm4 := HM.out.next y4 GT.out.still
          have hb4 := way_busy HM.out.z.good HB.out.1 GT.out.way
          have hp4 := HB.out.2.way HM.out.z.good GT.out.way
          have hr4 : A'.r ≤ j + 1 := by have := GT.out.r; have := HR.out; omega
          have hU4 : (U ++ [y]).length ≤ j + 1 := by have := HR.out.2; simp; omega
          have Z4 := Lib.hid hm4; have B4 := Lib.hid (And.intro hb4 hp4); have R4 := Lib.hid (And.intro hr4 hU4)
          have hUl : U.length ≤ 100 := by have := HR.out.2; omega
          clear hy y4 hm4 hb4 hp4 hr4 hU4 hcell
          go_wp2_with (at_builtin; refine wpList_append_vec (E := Elem.u64s) rfl (.tmp 70) (.tmp 72) 39 rfl 38 i0 (.int .u64 0) 8 Tryz.underlying39 hi hz0 hz1 hz2 rfl (.slice a' U.length cap') (.slice (some ⟨w4.heap.size, 0, none⟩) 1 1) U [y] rfl rfl (Z4.out.alloc _).vec (u64_oneAt w4 38 y _ rfl) ?_ ?_ ?_; (simp only [maxLen, List.length_cons, List.length_nil]; omega); (simp only [List.length_cons, List.length_nil]; omega); intro v2 w7 hv2 hu2 hin2; have Z7 := Lib.hid ((Z4.out.alloc _).app hv2 hu2 hin2); clear hv2 hu2 hin2)
          go_roundw
          case rel => exact ⟨j + 1, H', A', L', U ++ [y], by omega, by go_num, Z7.out, B4.out.1, B4.out.2, R4.out.1, R4.out.2⟩
          case measure => simp [intOf]; omega
        | false =>
          have y4 := GT.out.miss rfl
          have hm4 := HM.out.next y4 GT.out.still
          have hb4 := way_busy HM.out.z.good HB.out.1 GT.out.way
          have hp4 := HB.out.2.way HM.out.z.good GT.out.way
          have hr4 : A'.r ≤ j + 1 := by have := GT.out.r; have := HR.out; omega
          have hU4 : U.length ≤ j + 1 := by have := HR.out.2; omega
          have Z4 := Lib.hid hm4; have B4 := Lib.hid (And.intro hb4 hp4); have R4 := Lib.hid (And.intro hr4 hU4)
          clear y4 hm4 hb4 hp4 hr4 hU4 hcell
          go_wp2
          go_roundw
          case rel => exact ⟨j + 1, H', A', L', U, by omega, by go_num, Z4.out, B4.out.1, B4.out.2, R4.out.1, R4.out.2⟩
          case measure => simp [intOf]; omega
      · obtain rfl : j = l.length := by omega
        have t1 : decide ((l.length : Int) < (l.length : Int)) = false := decide_eq_false (by omega)
        obtain ⟨O1, own, B, z2, hB⟩ := hm.two
        have HPG := Lib.hid (oh_pages hm.z.oh (Arr.nil wr) (show (0 : Nat) ≤ 1000 by decide))
        have GB := Lib.hid (And.intro hm.z.good (And.intro hm.z.hu hB))
        have BP' := Lib.hid (And.intro hbz hpl)
        have HV := Lib.hid (And.intro hm.vec hm.lo)
        have HU2 := Lib.hid (show ∀ x ∈ U, U64B x from fun x hx => hm.z.u64 hx)
        have hUl : U.length ≤ 100 := by omega
        have Z2' := Lib.hid z2
        clear hm hbz hpl hr z2 hB
        go_wp2_with fail
        refine HPG.out.mono ?_; rintro e w4 ⟨a9, k9, cap9, rfl, hs9, _, _, _, hb4⟩
        have hk9 := hs9.len
        have Z4 := Lib.hid (Z2'.out.grew hb4)
        have HV4 := Lib.hid (HV.out.1.upd (updFalse_of hb4) fun _ _ x => x)
        have HK9 := Lib.hid hk9
        clear hs9 hb4 hk9
        go_wp2_with fail
        refine (K.segs w4 Z4.out.below Z4.out.z1).mono ?_; rintro e w5 ⟨asl, ks, caps, rfl, hss, hk1, hk2, hin, hb5⟩
        obtain rfl : ks = B.length := by have := hss.len; rw [List.length_map] at this; exact this
        have hz5 := Z4.out.ours hb5
        obtain ⟨S5, hS5⟩ : ∃ S5, (fun k => In (.slice a' U.length cap') k ∨ (w4.heap.size ≤ k ∧ k < w5.heap.size)) = S5 := ⟨_, rfl⟩
        rw [hS5] at hz5
        have hv5 := HV4.out.upd (updFalse_of hb5) fun _ _ x => x
        have hS5v : ∀ k, In (.slice a' U.length cap') k → S5 k := fun k hk => by rw [← hS5]; exact .inl hk
        have hS5s : B ≠ [] → ∀ k, In (.slice asl B.length caps) k → S5 k := fun hne k hk => by rw [← hS5]; exact .inr ⟨hin k hk, seq_lt hss (by simpa using hne) (by decide) hk⟩
        have hB60 : B.length ≤ 64 := by
          have := hz5.z1.good.pls
          have h2 := ints_bound 64 (l := (hsOf B H.Q).B.map fun X => (X.pl : Int)) ?_ ?_
          · simpa [hsOf] using h2
          · have h3 := hz5.z1.good.pls
            rw [List.Nodup, List.pairwise_map] at h3 ⊢
            exact h3.imp fun hne e => hne (by omega)
          · intro x hx
            obtain ⟨X, hX, rfl⟩ := List.mem_map.1 hx
            have := (hz5.z1.good.seg X hX).pl
            omega
        have I5 := Lib.hid (show SegR w K h o p g q own L U A B (.slice a' U.length cap') (.slice asl B.length caps) S5 (.int .i64 0) w5 from ⟨0, _, _, [], _, _, Nat.zero_le _, rfl, hz5, rfl, fun _ => hss, hv5⟩)
        have KS := Lib.hid (And.intro hS5v hS5s)
        clear hss hk1 hk2 hin hb5 hz5 hS5 hv5 hS5v hS5s
        go_wp2
        go_loopw [81] (fun i wr => SegR w K h o p g q own L U A B (.slice a' U.length cap') (.slice asl B.length caps) S5 i wr) (fun i _ => B.length - (intOf i).toNat)
        case atStart => exact I5.out
        case round =>
          clear I5
          obtain ⟨j, O1', O2', T, Q1, Q2, hj, rfl, hz, hT, hsq, hv⟩ := hrel
          by_cases hjb : j < B.length
          · obtain ⟨b, hb⟩ : ∃ b, B[j]? = some b := ⟨_, List.getElem?_eq_getElem hjb⟩
            have hne : B ≠ [] := fun e => by rw [e] at hjb; exact absurd hjb (by simp)
            have hdrop : B.drop j = b :: B.drop (j + 1) := by
              rw [List.drop_eq_getElem_cons hjb]
              rw [List.getElem?_eq_getElem hjb] at hb
              injection hb with hb
              rw [hb]
            have htake : B.take (j + 1) = B.take j ++ [b] := by
              rw [List.take_add_one, hb]; rfl
            have hsq' := hsq hne
            obtain ⟨bk, off, ea, hcell⟩ := hsq'.elem (i := j) (x := some ⟨b.sp, 0, none⟩) (by rw [List.getElem?_map, hb]; rfl)
            subst ea
            have c0 : wr.cell? ⟨bk, off + j, none⟩ = some (.pointer (some ⟨b.sp, 0, none⟩)) := by
              have := hcell 0 _ rfl
              simpa [Elem.ptrs] using this
            have ow := (BP'.out.2.own b.X (by rw [← GB.out.2.2]; exact List.mem_map.2 ⟨b, List.mem_of_getElem? hb, rfl⟩))
            rw [hdrop] at hz
            have ZZ := Lib.hid hz; have HT' := Lib.hid (And.intro hT htake); have SQ := Lib.hid hsq'; have HV' := Lib.hid hv; have OW := Lib.hid ow
            have SM := same_seg
            clear hz hT hsq hsq' hv hdrop htake hcell hb ow
            have t2 : decide ((j : Int) < (B.length : Int)) = true := decide_eq_true (by omega)
            go_wp2_with fail
            refine (two_leave_none ZZ.out).mono ?_; rintro e w6 ⟨rfl, hb⟩
            have Z6 := Lib.hid (ZZ.out.grew hb); have SQ6 := Lib.hid (SQ.out.upd (updFalse_of hb) fun _ _ x => x); have HV6 := Lib.hid (HV'.out.upd (updFalse_of hb) fun _ _ x => x)
            clear hb c0
            go_wp2_with fail
            refine (two_place Z6.out (List.mem_cons_self ..)).mono ?_; rintro e w7 ⟨rfl, hb⟩
            have Z7 := Lib.hid (Z6.out.grew hb); have SQ7 := Lib.hid (SQ6.out.upd (updFalse_of hb) fun _ _ x => x); have HV7 := Lib.hid (HV6.out.upd (updFalse_of hb) fun _ _ x => x)
            clear hb
            go_wp2_with fail
            refine (two_leave Z7.out).mono ?_; rintro e w8 ⟨rfl, O1n, Q1n, hz8, u8⟩
            have Z8 := Lib.hid hz8; have SQ8 := Lib.hid (SQ7.out.upd u8 fun k hk x => x (KS.out.2 hne k hk)); have HV8 := Lib.hid (HV7.out.upd u8 fun k hk x => x (KS.out.1 k hk))
            clear hz8 u8
            go_wp2_with fail
            refine (two_adopt Z8.out).mono ?_; rintro e w9 ⟨rfl, O2n, Q2n, hz9, u9⟩
            have Z9 := Lib.hid hz9; have SQ9 := Lib.hid (SQ8.out.upd u9 fun k hk x => x (KS.out.2 hne k hk)); have HV9 := Lib.hid (HV8.out.upd u9 fun k hk x => x (KS.out.1 k hk))
            clear hz9 u9
            go_wp2_with fail
            refine (two_there Z9.out (b := b) (List.mem_append_right _ (List.mem_singleton.2 rfl))).mono ?_; rintro e w10 ⟨rfl, hb⟩
            have Z10 := Lib.hid (Z9.out.grew hb); have SQ10 := Lib.hid (SQ9.out.upd (updFalse_of hb) fun _ _ x => x); have HV10 := Lib.hid (HV9.out.upd (updFalse_of hb) fun _ _ x => x)
            clear hb
            go_wp2_with fail
            refine (two_owner Z10.out (b := b) (List.mem_append_right _ (List.mem_singleton.2 rfl))).mono ?_; rintro e w11 ⟨rfl, hb⟩
            have Z11 := Lib.hid (Z10.out.grew hb); have SQ11 := Lib.hid (SQ10.out.upd (updFalse_of hb) fun _ _ x => x); have HV11 := Lib.hid (HV10.out.upd (updFalse_of hb) fun _ _ x => x)
            clear hb
            go_wp2_with fail
            refine (two_oload Z11.out (by rw [OW.out.2]; decide)).mono ?_; rintro e w12 ⟨rfl, hz12, u12⟩
            have Z12 := Lib.hid hz12; have SQ12 := Lib.hid (SQ11.out.upd u12 fun k hk x => x (KS.out.2 hne k hk)); have HV12 := Lib.hid (HV11.out.upd u12 fun k hk x => x (KS.out.1 k hk))
            rw [OW.out.1, OW.out.2]
            clear hz12 u12
            go_wp2_with fail
            go_roundw
            case rel =>
              refine ⟨j + 1, O1n, O2n, T ++ [askO b], Q1n, Q2n, by omega, by go_num, Z12.out, ?_, fun _ => SQ12.out, HV12.out⟩
              rw [HT'.out.2, List.map_append, List.map_append, List.map_append, List.map_append, HT'.out.1]
              rfl
            case measure => simp [intOf]; omega
          · obtain rfl : j = B.length := by omega
            have t2 : decide ((B.length : Int) < (B.length : Int)) = false := decide_eq_false (by omega)
            rw [List.drop_length] at hz
            rw [List.take_length, GB.out.2.2] at hT
            have hHT : (hsOf T Q2).B.map bare = H.B.map bare := hT
            have hz2 : Two C K h o p g q O1' O2' own L A [] [] T Q1 Q2 S5 wr := hz
            have hlen := pages_len GB.out.1 hz2.z2.good hHT
            have hph := hz2.ph (v := .slice a' U.length cap') KS.out.1 hv HV.out.2 (GB.out.2.1.bare hHT)
            have hbz := BP'.out.1.bare hHT
            have hcw : ∀ X ∈ (hsOf T Q2).B, ∀ o ∈ X.L, o.P.cw = 0 := fun X hX o ho => by
              obtain ⟨Z, hZ, _, e2⟩ := bare_mem hHT hX
              exact BP'.out.2.cw Z hZ o (by rw [e2]; exact ho)
            have hpn := pages_none hz2.z1.good rfl
            have ZZ := Lib.hid hz2; have PP := Lib.hid hph; have HLEN := Lib.hid (And.intro hlen hpn); have BZ := Lib.hid (And.intro hbz hcw)
            clear hz hz2 hT hHT hsq hv hlen hph hbz hcw hpn
            go_wp2_with fail
            refine (K.segs wr ZZ.out.below ZZ.out.z1).mono ?_; rintro e w6 ⟨a6, k6, c6, rfl, hs6, _, _, _, hb⟩
            obtain rfl : k6 = 0 := hs6.len
            have Z6 := Lib.hid (ZZ.out.grew hb); have P6 := Lib.hid (PP.out.grew hb)
            clear hs6 hb
            go_wp2_with fail
            refine (K.pages w6 Z6.out.below Z6.out.z1 (Arr.nil w6) (by decide)).mono ?_; rintro e w7 ⟨a7, k7, c7, rfl, hs7, _, _, _, hb⟩
            obtain rfl : k7 = 0 := hs7.len.trans HLEN.out.2
            have Z7 := Lib.hid (Z6.out.grew hb); have P7 := Lib.hid (P6.out.grew hb)
            clear hs7 hb
            go_wp2_with fail
            refine (K.pages w7 Z7.out.below Z7.out.z2 (Arr.nil w7) (by decide)).mono ?_; rintro e w8 ⟨a8, k8, c8, rfl, hs8, _, _, _, hb⟩
            obtain rfl : k8 = k9 := (hs8.len.trans HLEN.out.1).trans HK9.out.symm
            have P8 := Lib.hid (P7.out.grew hb)
            have I8 := Lib.hid (show BackR w K h o p g q O1' Q1 U (.slice a' U.length cap') (.int .i64 0) w8 from ⟨0, _, _, _, Nat.zero_le _, rfl, P8.out, BZ.out.1, BZ.out.2⟩)
            clear hs8 hb
            go_wp2
            go_loopw [146] (fun i wr => BackR w K h o p g q O1' Q1 U (.slice a' U.length cap') i wr) (fun i _ => U.length - (intOf i).toNat)
            case atStart => exact I8.out
            case round =>
              clear I8
              obtain ⟨t, H9, A9, L9, ht, rfl, hz, hb9, hc9⟩ := hrel
              by_cases htu : t < U.length
              · obtain ⟨x, hx⟩ : ∃ x, U[t]? = some x := ⟨_, List.getElem?_eq_getElem htu⟩
                have hdrop : U.drop t = x :: U.drop (t + 1) := by
                  rw [List.drop_eq_getElem_cons htu]
                  rw [List.getElem?_eq_getElem htu] at hx
                  injection hx with hx
                  rw [hx]
                obtain ⟨bv, ov, rfl, _⟩ := hz.vec.seq.elem hx
                have cx := hz.cell hx
                have hx64 := HU2.out x (List.mem_of_getElem? hx)
                have hx64' : x ≤ 18446744073709551615 := hx64
                rw [hdrop] at hz
                have P9 := Lib.hid hz; have B9 := Lib.hid (And.intro hb9 hc9); have HX := Lib.hid hx64
                have t3 : decide ((t : Int) < (U.length : Int)) = true := decide_eq_true (by omega)
                clear hz hb9 hc9 hdrop hx hx64
                go_wp2_with fail
                refine (ph_free_none P9.out HX.out).mono ?_; rintro e w10 ⟨rfl, hb⟩
                have P10 := Lib.hid (P9.out.grew hb)
                clear hb cx
                go_wp2_with fail
                refine (ox_free P10.out.z (List.Perm.refl _) HX.out).mono ?_; rintro e w11 ⟨rfl, L11, _, _, y11, u11⟩
                have P11 := Lib.hid (P10.out.next y11 u11)
                have B11 := Lib.hid (And.intro (busy_free (A := A9) P10.out.z.good B9.out.1 x) (cw_free (A := A9) P10.out.z.good B9.out.2 x))
                clear y11 u11
                go_wp2_with fail
                go_roundw
                case rel => exact ⟨t + 1, _, _, L11, by omega, by go_num, P11.out, B11.out.1, B11.out.2⟩
                case measure => simp [intOf]; omega
              · obtain rfl : t = U.length := by omega
                have t3 : decide ((U.length : Int) < (U.length : Int)) = false := decide_eq_false (by omega)
                rw [List.drop_length] at hz
                have hnil := busy_nil hb9 hz.z.hu hc9
                have h0 : total A9.l = 0 := by
                  obtain ⟨g1, g2, _⟩ := hz.z.oh.arena
                  rw [arena_len hz.z.good g1 g2, hnil]; rfl
                have P9 := Lib.hid hz; have H0 := Lib.hid (And.intro hnil h0)
                clear hz hb9 hc9 hnil h0
                go_wp2_with fail
                refine (oh_segs P9.out.z.oh).mono ?_; rintro e w10 ⟨a10, k10, c10, S10, rfl, hs10, hl10, _, _, _, hb⟩
                obtain rfl : k10 = 0 := by rw [hs10.len, hl10, H0.out.1]; rfl
                have P10 := Lib.hid (P9.out.grew hb)
                clear hs10 hl10 hb
                go_wp2_with fail
                refine (oh_given P10.out.z.oh).mono ?_; rintro e w11 ⟨rfl, hb⟩
                have P11 := Lib.hid (P10.out.grew hb)
                rw [H0.out.2]
                clear hb
                go_wp2
                go_ret
                exact ⟨rfl, P11.out.z.below⟩
end Go.Proofs.YtfdnmoedejejlaaGreatDoor.heapMoves
