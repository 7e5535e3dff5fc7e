/- The law HeapBack, walked. -/
import Derived.Test.YtmjeelnidiijdaaGreatDoorAlives12
import Derived.Test.YtmjeelnidiijdaaGreatDoorGets12
import Derived.Test.YtmjeelnidiijdaaGreatDoorBack12b
import Derived.Test.YtmjeelnidiijdaaGreatDoorFulls12
import Derived.Test.YtmjeelnidiijdaaGreatDoorPost12
import Derived.Test.YtmjeelnidiijdaaGreatDoorRecs12
import Derived.Deep.RegionHeld3
namespace Go.Proofs.YtmjeelnidiijdaaGreatDoor.heapBack
open Go.RowKit ListMath PageMath GeoMath SegMath ClassMath HeapMath QueueMath ArenaMath
set_option linter.unusedVariables false

theorem u64_bd {n : Int} (h : (Lit.int .u64 n).wf = true) : 0 ≤ n ∧ n ≤ 18446744073709551615 := by
  simp [Lit.wf, IntKind.min, IntKind.max, IntKind.signed, IntKind.bits] at h; omega
/-- Blocks came, as sizes were asked for. -/
def GetR (w : World) {C : SgC w} (K : HpC w C) (h p g q rb n : Nat) (i : Value) (wr : World) : Prop :=
  ∃ (j : Nat) (H : HS) (A : St) (L U : List Nat) (v : Value), j ≤ n ∧ i = .int .i64 (j : Int) ∧ PR C K h 7 p g q rb H A L U v U wr ∧ Busy H ∧ CtB 0 H ∧ A.r ≤ j ∧ U.length ≤ j
/-- So many of them went back, or were posted. -/
def PostR (w : World) {C : SgC w} (K : HpC w C) (h p g q rb : Nat) (U : List Nat) (v i : Value) (wr : World) : Prop :=
  ∃ (j : Nat) (H : HS) (A : St) (L : List Nat), j ≤ U.length ∧ i = .int .i64 (j : Int) ∧ PR C K h 7 p g q rb H A L (U.drop j) v U wr ∧ Busy H ∧ CtB j H
theorem seq_lt {α : Type} {E : Elem α} {w : World} {v : Value} {l : List α} (h : Seq E w v l) (hl : l ≠ []) (hE : 0 < E.size) {k : Nat} (hk : In v k) : k < w.heap.size := by
  rcases h with ⟨b, off, cap, rfl, hc⟩ | ⟨e, _⟩
  · have hkb : b = k := by injection hk
    subst hkb
    have hpos : 0 < (E.all l).length := by
      rw [E.length_all]
      exact Nat.mul_pos (List.length_pos_iff.2 hl) hE
    exact World.block_lt_of_cell? w _ (hc 0 _ (List.getElem?_eq_getElem hpos))
  · exact absurd e hl
/-- So many segments have been asked for x. -/
def SegR (w : World) {C : SgC w} (K : HpC w C) (h p g q rb : Nat) (O own : Nat → Prop) (lB rB : List SB) (b : SB) (x : Nat) (V U : List Nat) (A : St) (t : Nat) (v vs : Value) (T : Nat → Prop) (i : Value) (wr : World) : Prop :=
  ∃ (j : Nat) (H : HS) (L : List Nat) (b' : SB), j ≤ (lB ++ b :: rB).length ∧ i = .int .i64 (j : Int) ∧ Seq Elem.ptrs wr vs ((lB ++ b :: rB).map fun b => some ⟨b.sp, 0, none⟩) ∧ Busy H ∧
    ((j ≤ lB.length ∧ CtB t H ∧ PB C K h 7 p g q rb O own H A L (x :: V) v U T (lB ++ b :: rB) wr) ∨ (lB.length < j ∧ CtB (t + 1) H ∧ PB C K h 7 p g q rb O own H A L V v U T (lB ++ b' :: rB) wr))
/-- So many pages have been gathered. -/
def GatR (w : World) {C : SgC w} (K : HpC w C) (h p g q : Nat) (ps : List Nat) (vp : Value) (S : Nat → Prop) (i : Value) (wr : World) : Prop :=
  ∃ (t : Nat) (H : HS) (A : St) (L : List Nat), t ≤ ps.length ∧ i = .int .i64 (t : Int) ∧ OX C K h 7 p g q H A L [] S wr ∧ Busy H ∧ GatI (ps.drop t) H ∧ (ps ≠ [] → Seq Elem.u64s wr vp ps)
set_option maxHeartbeats 8000000 in
set_option maxRecDepth 100000 in
theorem walk_of (w : World) {C : SgC w} (K : HpC w C) (F : Fo w) {a : Option Addr} {n cap : Nat} (l : List Int) (hl : NumsAt w .u64 (.slice a n cap) l) {ap : Option Addr} {np capp : Nat} (fl : List Bool) (hf : FlagsAt w (.slice ap np capp) fl) :
    Calls Tryz.prog 5 #[.slice a n cap, .slice ap np capp] w fun e w' => e = .returned (.bool true) ∧ Below w.heap.size w w' := by
  obtain rfl : n = l.length := by obtain ⟨_, _, e, _⟩ := hl; injection e
  obtain rfl : np = fl.length := by obtain ⟨_, _, e, _⟩ := hf; injection e
  have hfl : fl.length ≤ 9223372036854775807 := by obtain ⟨_, _, e, h1, h2, _⟩ := hf; omega
  have HL := Lib.hid hl
  have HFL := Lib.hid hf
  have AL := Lib.hid (alive_h w K F)
  obtain ⟨i0, hi, hz0, hz1, hz2⟩ := info_parts infoU64
  obtain ⟨tb, htb⟩ : ∃ tb, decide (100 < (l.length : Int)) = tb := ⟨_, rfl⟩
  have htb' : decide (100 < l.length) = tb := by rw [← htb]; exact decide_eq_decide.2 (by omega)
  have HT := Lib.hid htb
  clear hl hf
  go_enter Tryz.func5, Tryz.ntmps5
  go_wp2_with fail
  refine AL.out.mono ?_; rintro e w1 ⟨rfl, hb⟩
  have B1 := Lib.hid hb
  clear hb
  go_wp2_with fail
  refine (made_any (K := K) B1.out (segs := 16) (lim := 16) (by decide) (by decide) (by decide)).mono ?_; rintro e w2 ⟨h, p, g, q, rfl, z⟩
  obtain ⟨L0, hL0, zx⟩ := z.ox
  have Z2 := Lib.hid zx
  clear z zx hL0
  cases tb with
  | true =>
    go_wp2
    go_ret
    exact ⟨rfl, Z2.out.below⟩
  | false =>
    have hn100 : l.length ≤ 100 := by have := of_decide_eq_false HT.out; omega
    have hz3 := Z2.out.mine (.cells (runA h (.slice none 0 0)) 41)
    have hb3 := Blk.new w2 41 (runA h (.slice none 0 0))
    obtain ⟨W3, hW3⟩ : ∃ Wz, w2.alloc (.cells (runA h (.slice none 0 0)) 41) = Wz := ⟨_, rfl⟩
    obtain ⟨rb, hrb⟩ : ∃ bz, w2.heap.size = bz := ⟨_, rfl⟩
    rw [hW3, hrb] at hb3 hz3
    have hpr : PR C K h 7 p g q rb h0 ⟨16, 16, [], [], 0⟩ L0 [] (.slice none 0 0) [] W3 :=
      ⟨hz3.forget fun k hk => hk.elim .inr fun e => (by cases e), Vec.nil _, hb3, (fun k hk => hk.elim (fun e => by rw [e, ← hrb]; exact Z2.out.below.size) fun e => by cases e), fun e => by cases e⟩
    have I0 := Lib.hid (show GetR w K h p g q rb l.length (.int .i64 0) W3 from ⟨0, _, _, _, _, _, Nat.zero_le _, rfl, hpr, ⟨fun X hX => (List.not_mem_nil hX).elim, fun X hX => (List.not_mem_nil hX).elim⟩, fun X hX => (List.not_mem_nil hX).elim, Nat.le_refl _, Nat.zero_le _⟩)
    clear hpr hz3 hb3
    go_wp2_with fail
    clear htb htb'
    go_loopw [50] (fun i wr => GetR w K h p g q rb l.length i wr) (fun i _ => l.length - (intOf i).toNat)
    case atStart => exact I0.out
    case round =>
      clear I0
      obtain ⟨j, H, A, L, U, v, hj, rfl, hm, hbz, hct, hr, hU⟩ := hrel
      obtain ⟨a', cap', rfl, hc1, hc2⟩ := hm.vec.slice'
      by_cases hlt : j < l.length
      · obtain ⟨a9, cap9, e, _, _, _, h4, h5⟩ := HL.out.below (Nat.le_refl _) hm.z.below
        injection e with e1 _ e3
        subst e1 e3
        obtain ⟨b, off, rfl, hcell⟩ := h4 j hlt
        have hbd := u64_bd (h5 (l.getD j 0) (by simp [List.getD_eq_getElem?_getD, hlt]))
        obtain ⟨x, hx⟩ : ∃ x, l.getD j 0 = x := ⟨_, rfl⟩
        rw [hx] at hcell hbd
        clear h4 h5 hx
        obtain ⟨x, rfl⟩ := Int.eq_ofNat_of_zero_le hbd.1
        have hx64 : x ≤ 18446744073709551615 := by omega
        have HM := Lib.hid hm; have HB := Lib.hid (And.intro hbz hct); have HR := Lib.hid (And.intro hr hU)
        clear hm hbz hct hr hU hbd
        have t1 : decide ((j : Int) < (l.length : Int)) = true := decide_eq_true (by omega)
        go_wp2_with fail
        refine (get_any F HM.out.z (by have := HR.out.1; omega) x hx64).mono ?_; rintro e w4 ⟨y, us, ok, P, H', A', L', rfl, gt⟩
        have GT := Lib.hid gt
        clear gt
        cases ok with
        | true =>
          obtain ⟨_, hy, y4, _⟩ := GT.out.hit rfl
          have hm4 := HM.out.next y4 GT.out.still
          have hb4 := way_busy HM.out.z.good HB.out.1 GT.out.way
          have hp4 := HB.out.2.way HM.out.z.good GT.out.way
          have hr4 : A'.r ≤ j + 1 := by have := GT.out.r; have := HR.out; omega
          have hU4 : (U ++ [y]).length ≤ j + 1 := by have := HR.out.2; simp; omega
          have Z4 := Lib.hid hm4; have B4 := Lib.hid (And.intro hb4 hp4); have R4 := Lib.hid (And.intro hr4 hU4)
          have hUl : U.length ≤ 100 := by have := HR.out.2; omega
          have e5 : (U ++ [y]).length = U.length + 1 := by simp
          have m2 : w4.cell? ⟨rb, 2, none⟩ = some (.slice a' U.length cap') := hm4.blk.cell 2
          clear hy y4 hm4 hb4 hp4 hr4 hU4 hcell
          go_wp2_with (at_builtin; refine wpList_append_vec (E := Elem.u64s) rfl (.tmp 66) (.tmp 68) 39 rfl 38 i0 (.int .u64 0) 8 Tryz.underlying39 hi hz0 hz1 hz2 rfl (.slice a' U.length cap') (.slice (some ⟨w4.heap.size, 0, none⟩) 1 1) U [y] rfl rfl (Z4.out.alloc _).vec (u64_oneAt w4 38 y _ rfl) ?_ ?_ ?_; (simp only [maxLen, List.length_cons, List.length_nil]; omega); (simp only [List.length_cons, List.length_nil]; omega); intro v2 w7 hv2 hu2 hin2; obtain ⟨a2, cap2, rfl, hc3, hc4⟩ := hv2.slice'; rw [e5] at hv2 hin2 ⊢; have Z7 := Lib.hid ((Z4.out.alloc _).app hv2 hu2 hin2); have b7 := (Z4.out.alloc _).blk.upd hu2 Z4.out.ne; have m7 : w7.cell? ⟨rb, 2, none⟩ = some (.slice a' U.length cap') := b7.cell 2; have f7 : w7.frozen? ⟨rb, 2, none⟩ = false := b7.frozen 2; clear hv2 hu2 hin2 b7)
          go_roundw
          case rel => exact ⟨j + 1, H', A', L', U ++ [y], _, by omega, by go_num, Z7.out, B4.out.1, B4.out.2, R4.out.1, R4.out.2⟩
          case measure => simp [intOf]; omega
        | false =>
          have y4 := GT.out.miss rfl
          have hm4 := HM.out.next y4 GT.out.still
          have hb4 := way_busy HM.out.z.good HB.out.1 GT.out.way
          have hp4 := HB.out.2.way HM.out.z.good GT.out.way
          have hr4 : A'.r ≤ j + 1 := by have := GT.out.r; have := HR.out; omega
          have hU4 : U.length ≤ j + 1 := by have := HR.out.2; omega
          have Z4 := Lib.hid hm4; have B4 := Lib.hid (And.intro hb4 hp4); have R4 := Lib.hid (And.intro hr4 hU4)
          clear y4 hm4 hb4 hp4 hr4 hU4 hcell
          go_wp2
          go_roundw
          case rel => exact ⟨j + 1, H', A', L', U, _, by omega, by go_num, Z4.out, B4.out.1, B4.out.2, R4.out.1, R4.out.2⟩
          case measure => simp [intOf]; omega
      · obtain rfl : j = l.length := by omega
        have t1 : decide ((l.length : Int) < (l.length : Int)) = false := decide_eq_false (by omega)
        have m2 : wr.cell? ⟨rb, 2, none⟩ = some (.slice a' U.length cap') := hm.blk.cell 2
        have I5 := Lib.hid (show PostR w K h p g q rb U (.slice a' U.length cap') (.int .i64 0) wr from ⟨0, H, A, L, Nat.zero_le _, rfl, hm, hbz, hct⟩)
        have HU2 := Lib.hid (show ∀ x ∈ U, U64B x from fun x hx => hm.z.u64 hx)
        have hUl : U.length ≤ 100 := by omega
        clear hm hbz hct hr hU
        go_wp2_with fail
        go_loopw [78] (fun i wr => PostR w K h p g q rb U (.slice a' U.length cap') i wr) (fun i _ => U.length - (intOf i).toNat)
        case atStart => exact I5.out
        case round =>
          clear I5 m2
          obtain ⟨t, H9, A9, L9, ht, rfl, hz, hb9, hc9⟩ := hrel
          by_cases htu : t < U.length
          · obtain ⟨x, hx⟩ : ∃ x, U[t]? = some x := ⟨_, List.getElem?_eq_getElem htu⟩
            have hdrop : U.drop t = x :: U.drop (t + 1) := by
              rw [List.drop_eq_getElem_cons htu]
              rw [List.getElem?_eq_getElem htu] at hx
              injection hx with hx
              rw [hx]
            obtain ⟨bv, ov, rfl, _⟩ := hz.vec.seq.elem hx
            have cx := hz.cell hx
            have hx64 := HU2.out x (List.mem_of_getElem? hx)
            have hx64' : x ≤ 18446744073709551615 := hx64
            rw [hdrop] at hz
            have P9 := Lib.hid hz; have B9 := Lib.hid (And.intro hb9 hc9); have HX := Lib.hid hx64
            have t3 : decide ((t : Int) < (U.length : Int)) = true := decide_eq_true (by omega)
            have FREE := Lib.hid (ox_free P9.out.z (List.Perm.refl _) HX.out)
            obtain ⟨pf, hpf⟩ : ∃ pf, decide ((fl.length : Int) ≤ (t : Int)) = pf := ⟨_, rfl⟩
            have hpf' : decide (fl.length ≤ t) = pf := by rw [← hpf]; exact decide_eq_decide.2 (by omega)
            cases pf with
            | true =>
              clear hz hb9 hc9 hdrop hx hx64
              go_wp2_with fail
              refine FREE.out.mono ?_; rintro e w11 ⟨rfl, L11, _, _, y11, u11⟩
              have P11 := Lib.hid (P9.out.next y11 u11)
              have B11 := Lib.hid (And.intro (busy_free (A := A9) P9.out.z.good B9.out.1 x) (CtB.free (A := A9) P9.out.z.good B9.out.2 x))
              clear y11 u11
              go_wp2_with fail
              go_roundw
              case rel => exact ⟨t + 1, _, _, L11, by omega, by go_num, P11.out, B11.out.1, B11.out.2.mono (Nat.le_succ _)⟩
              case measure => simp [intOf]; omega
            | false =>
              have hlt2 : t < fl.length := by have := of_decide_eq_false hpf'; omega
              obtain ⟨a8, cap8, e, _, _, _, h4⟩ := HFL.out.below (Nat.le_refl _) P9.out.z.below
              injection e with e1 _ e3
              subst e1 e3
              obtain ⟨bf, off, rfl, hcell⟩ := h4 t hlt2
              obtain ⟨f, hfv⟩ : ∃ f, fl.getD t false = f := ⟨_, rfl⟩
              rw [hfv] at hcell
              clear h4 hfv hz hb9 hc9 hdrop hx hx64
              cases f with
              | false =>
                go_wp2_with fail
                refine FREE.out.mono ?_; rintro e w11 ⟨rfl, L11, _, _, y11, u11⟩
                have P11 := Lib.hid (P9.out.next y11 u11)
                have B11 := Lib.hid (And.intro (busy_free (A := A9) P9.out.z.good B9.out.1 x) (CtB.free (A := A9) P9.out.z.good B9.out.2 x))
                clear y11 u11
                go_wp2_with fail
                go_roundw
                case rel => exact ⟨t + 1, _, _, L11, by omega, by go_num, P11.out, B11.out.1, B11.out.2.mono (Nat.le_succ _)⟩
                case measure => simp [intOf]; omega
              | true =>
                go_wp2_with fail
                refine (pr_segs P9.out).mono ?_; rintro e w12 ⟨av, ks, caps, rfl, O, own, B, T, hss, hk1, hk2, hin, hpb⟩
                obtain rfl : ks = B.length := by have := hss.len; rw [List.length_map] at this; exact this
                obtain ⟨X, hX, o, ho, hrn⟩ := P9.out.z.hu.at' x (List.mem_cons_self ..)
                have hfo : findO X x = some o := (findH_some (findH_run P9.out.z.good hX ho hrn)).2
                rw [← hpb.ob.b] at hX
                obtain ⟨b, hbB, rfl⟩ := List.mem_map.1 hX
                have hpls := hpb.ob.good.pls
                rw [← hpb.ob.b] at hpls
                obtain ⟨lB, rB, rfl⟩ := List.append_of_mem hbB
                have hfar : ∀ c, c ∈ lB ∨ c ∈ rB → findO c.X x = none := fun c hc => findO_far hfo fun e => by
                  rw [List.map_append, List.map_append, List.map_cons, List.map_cons, List.nodup_append, List.nodup_cons] at hpls
                  rcases hc with hc | hc
                  · exact hpls.2.2 _ (List.mem_map.2 ⟨_, List.mem_map.2 ⟨c, hc, rfl⟩, rfl⟩) _ (List.mem_cons_self ..) e
                  · exact hpls.2.1.1 (List.mem_map.2 ⟨_, List.mem_map.2 ⟨c, hc, rfl⟩, e⟩)
                have hKS : ∀ k, In (.slice av (lB ++ b :: rB).length caps) k → T k := fun k hk => hin k hk (seq_lt hss (by simp) (by decide) hk)
                have hB64 : (lB ++ b :: rB).length ≤ 64 := by
                  have h2 := ints_bound 64 (l := H9.B.map fun X => (X.pl : Int)) ?_ ?_
                  · rw [List.length_map, ← hpb.ob.b, List.length_map] at h2; exact h2
                  · have h3 := hpb.ob.good.pls
                    rw [List.Nodup, List.pairwise_map] at h3 ⊢
                    exact h3.imp fun hne e => hne (by omega)
                  · intro y hy
                    obtain ⟨Y, hY, rfl⟩ := List.mem_map.1 hy
                    have := (hpb.ob.good.seg Y hY).pl
                    omega
                have I12 := Lib.hid (show SegR w K h p g q rb O own lB rB b x (U.drop (t + 1)) U A9 t (.slice (some ⟨bv, ov, none⟩) U.length cap') (.slice av (lB ++ b :: rB).length caps) T (.int .i64 0) w12 from ⟨0, _, _, b, Nat.zero_le _, rfl, hss, B9.out.1, .inl ⟨Nat.zero_le _, B9.out.2, hpb⟩⟩)
                have FF := Lib.hid (And.intro hfo (And.intro ho (And.intro hrn (And.intro hfar hKS))))
                obtain ⟨nB, hnB⟩ : ∃ nB, (lB ++ b :: rB).length = nB := ⟨_, rfl⟩
                rw [hnB] at I12 FF hB64 ⊢
                have HNB := Lib.hid hnB
                clear hss hk1 hk2 hin hpb hX hfo hbB hpls hfar hKS ho hrn hnB
                go_wp2
                go_loopw [101] (fun i wr => SegR w K h p g q rb O own lB rB b x (U.drop (t + 1)) U A9 t (.slice (some ⟨bv, ov, none⟩) U.length cap') (.slice av nB caps) T i wr) (fun i _ => nB - (intOf i).toNat)
                case atStart => exact I12.out
                case round =>
                  clear I12
                  obtain ⟨j2, H5, L5, b', hj2, rfl, hsq, hb5, hor⟩ := hrel
                  rw [HNB.out] at hj2
                  by_cases hjn : j2 < nB
                  · obtain ⟨c, hcj⟩ : ∃ c, (lB ++ b :: rB)[j2]? = some c := ⟨_, List.getElem?_eq_getElem (by rw [HNB.out]; exact hjn)⟩
                    obtain ⟨bk, off2, ea, hcell2⟩ := hsq.elem (i := j2) (x := some ⟨c.sp, 0, none⟩) (by rw [List.getElem?_map, hcj]; rfl)
                    subst ea
                    have c0 : wr.cell? ⟨bk, off2 + j2, none⟩ = some (.pointer (some ⟨c.sp, 0, none⟩)) := by
                      have := hcell2 0 _ rfl
                      simpa [Elem.ptrs] using this
                    have t5 : decide ((j2 : Int) < (nB : Int)) = true := decide_eq_true (by omega)
                    have SQ := Lib.hid hsq
                    obtain ⟨hfo, ho, hrn, hfar, hKS⟩ := FF.out
                    by_cases hjl : j2 = lB.length
                    · have hcb : c = b := by
                        rw [hjl] at hcj
                        simpa using hcj.symm
                      subst hcb
                      rcases hor with ⟨_, hct5, hpb⟩ | ⟨hh, _⟩
                      · have hcm : c ∈ lB ++ c :: rB := List.mem_append_right _ (List.mem_cons_self ..)
                        have FD := ob_find hpb.ob hcm HX.out
                        rw [hfo, findE_in hfo] at FD
                        change Calls _ _ _ _ fun e w' => e = .returned (.tuple #[.pointer (some ⟨o.op, 0, none⟩), .int .i64 0]) ∧ _ at FD
                        have FD' := Lib.hid FD
                        have hoct := hct5 c.X (hpb.ob.mem hcm) o ho
                        have P12 := Lib.hid hpb; have B12 := Lib.hid (And.intro hb5 hct5); have HO := Lib.hid (And.intro ho (And.intro hrn hKS))
                        have HJ := Lib.hid hjl
                        clear hsq hcell2 FD hpb hb5 hct5 hfo hfar hcj hrn hKS hjl
                        go_wp2_with fail
                        refine FD'.out.mono ?_; rintro e w13 ⟨rfl, hb⟩
                        have P13 := Lib.hid (P12.out.grew hb); have SQ13 := Lib.hid (SQ.out.upd (updFalse_of hb) fun _ _ x => x)
                        have d0 : w13.cell? ⟨o.op, 0, none⟩ = some (.pointer (some ⟨o.pp, 0, none⟩)) := ((P13.out.ob.sg hcm).own o ho).cell 0
                        clear hb c0
                        go_wp2_with fail
                        refine (ob_cell P13.out.ob hcm ho).mono ?_; rintro e w14 ⟨rfl, hb⟩
                        have P14 := Lib.hid (P13.out.grew hb); have SQ14 := Lib.hid (SQ13.out.upd (updFalse_of hb) fun _ _ x => x)
                        clear hb d0
                        go_wp2_with fail
                        refine (ob_load P14.out.ob ho (by omega)).mono ?_; rintro e w15 ⟨rfl, hob, u15⟩
                        have P15 := Lib.hid (P14.out.next hob u15); have SQ15 := Lib.hid (SQ14.out.upd u15 fun k hk x => x (HO.out.2.2 k hk))
                        have ho1 : ({ o with P := o.P.asked } : OwR) ∈ (putB c o o.P.asked).X.L := put_in ho _
                        have hcm1 : putB c o o.P.asked ∈ lB ++ putB c o o.P.asked :: rB := List.mem_append_right _ (List.mem_cons_self ..)
                        have d1 : w15.cell? ⟨o.op, 0, none⟩ = some (.pointer (some ⟨o.pp, 0, none⟩)) := ((P15.out.ob.sg hcm1).own _ ho1).cell 0
                        clear hob u15
                        go_wp2_with fail
                        refine (ob_post P15.out.ob (b := putB c o o.P.asked) (o := { o with P := o.P.asked }) ho1 (show o.P.ct ≤ _ by omega) (List.Perm.refl _) HO.out.2.1).mono ?_; rintro e w16 ⟨rfl, L16, hob, u16⟩
                        have P16 := Lib.hid (P15.out.next hob u16); have SQ16 := Lib.hid (SQ15.out.upd u16 fun k hk x => x (HO.out.2.2 k hk))
                        have hX5 := P12.out.ob.mem hcm
                        have hg5 := P12.out.ob.good
                        have hus := B12.out.1.used c.X hX5 o ho
                        have bz1 := busy_put hg5 B12.out.1 hX5 ho (S := o.P.asked) hus
                        have ct1 := B12.out.2.put hX5 (pp := o.pp) (S := o.P.asked) (show o.P.ct ≤ t from hoct)
                        have hX6 := P15.out.ob.mem hcm1
                        have bz2 := busy_put P15.out.ob.good bz1 hX6 ho1 (S := (o.P.asked).wrote x) hus
                        have ct2 := (ct1.mono (Nat.le_succ t)).put hX6 (pp := o.pp) (S := (o.P.asked).wrote x) (show o.P.ct + 1 ≤ t + 1 by omega)
                        have B16 := Lib.hid (And.intro bz2 ct2)
                        clear hob u16 d1 bz1 bz2 ct1 ct2 hX5 hX6 hg5
                        go_wp2_with fail
                        go_roundw
                        case rel => exact ⟨j2 + 1, _, L16, _, by rw [HNB.out]; omega, by go_num, SQ16.out, B16.out.1, .inr ⟨by have := HJ.out; omega, B16.out.2, P16.out⟩⟩
                        case measure => simp [intOf]; omega
                      · exfalso; omega
                    · have hcm : c ∈ lB ∨ c ∈ rB := by
                        rcases Nat.lt_or_gt_of_ne hjl with h1 | h1
                        · rw [List.getElem?_append_left h1] at hcj
                          exact .inl (List.mem_of_getElem? hcj)
                        · rw [List.getElem?_append_right (by omega)] at hcj
                          obtain ⟨m, hm⟩ : ∃ m, j2 - lB.length = m + 1 := ⟨j2 - lB.length - 1, by omega⟩
                          rw [hm, List.getElem?_cons_succ] at hcj
                          exact .inr (List.mem_of_getElem? hcj)
                      have hmem : ∀ d, c ∈ lB ++ d :: rB := fun d => hcm.elim (fun h => List.mem_append_left _ h) fun h => List.mem_append_right _ (List.mem_cons_of_mem _ h)
                      have hcn := hfar c hcm
                      have hen := findE_out hcn
                      have FD : Calls Tryz.prog 20 #[.pointer (some ⟨c.sp, 0, none⟩), .int .u64 (x : Int)] wr fun e w' => e = .returned (.tuple #[.pointer none, .int .i64 (findE c.X x)]) ∧ Below wr.heap.size wr w' := by
                        rcases hor with ⟨_, _, hpb⟩ | ⟨_, _, hpb⟩
                        · have k := ob_find hpb.ob (hmem b) HX.out
                          rw [hcn] at k; exact k
                        · have k := ob_find hpb.ob (hmem b') HX.out
                          rw [hcn] at k; exact k
                      obtain ⟨fe, hfe⟩ : ∃ fe, findE c.X x = fe := ⟨_, rfl⟩
                      rw [hfe] at FD hen
                      have hfd : decide (fe = 0) = false := decide_eq_false hen
                      have FD' := Lib.hid FD
                      have HOR := Lib.hid hor; have B5 := Lib.hid hb5
                      clear hsq hor hcell2 FD hb5 hfo hfar hcj ho hrn hKS hcm hmem hcn hfe
                      go_wp2_with fail
                      refine FD'.out.mono ?_; rintro e w13 ⟨rfl, hb⟩
                      have SQ13 := Lib.hid (SQ.out.upd (updFalse_of hb) fun _ _ x => x)
                      have HOR13 := Lib.hid (HOR.out.imp (fun ⟨h1, h2, h3⟩ => show j2 + 1 ≤ lB.length ∧ CtB t H5 ∧ PB C K h 7 p g q rb O own H5 A9 L5 (x :: U.drop (t + 1)) (.slice (some ⟨bv, ov, none⟩) U.length cap') U T (lB ++ b :: rB) w13 from ⟨by omega, h2, h3.grew hb⟩) (fun ⟨h1, h2, h3⟩ => show lB.length < j2 + 1 ∧ CtB (t + 1) H5 ∧ PB C K h 7 p g q rb O own H5 A9 L5 (U.drop (t + 1)) (.slice (some ⟨bv, ov, none⟩) U.length cap') U T (lB ++ b' :: rB) w13 from ⟨by omega, h2, h3.grew hb⟩))
                      clear hb c0
                      go_wp2_with fail
                      go_roundw
                      case rel => exact ⟨j2 + 1, H5, L5, b', by rw [HNB.out]; omega, by go_num, SQ13.out, B5.out, HOR13.out⟩
                      case measure => simp [intOf]; omega
                  · obtain rfl : j2 = nB := by omega
                    have t5 : decide ((j2 : Int) < (j2 : Int)) = false := decide_eq_false (by omega)
                    rcases hor with ⟨h1, _⟩ | ⟨h1, h2, h3⟩
                    · exfalso; have := HNB.out; simp at this; omega
                    have P12 := Lib.hid h3.pr; have B12 := Lib.hid (And.intro hb5 h2)
                    clear h1 h2 h3 hsq hb5
                    go_wp2
                    go_roundw
                    case rel => exact ⟨t + 1, H5, A9, L5, by omega, by go_num, P12.out, B12.out.1, B12.out.2⟩
                    case measure => simp [intOf]; omega
          · obtain rfl : t = U.length := by omega
            have t3 : decide ((U.length : Int) < (U.length : Int)) = false := decide_eq_false (by omega)
            rw [List.drop_length] at hz
            have HPG := Lib.hid (oh_pages hz.z.oh (Arr.nil wr) (show (0 : Nat) ≤ 1000 by decide))
            have Z9 := Lib.hid hz.z
            have B9 := Lib.hid (And.intro hb9 (And.intro (GatI.all hz.z.good) (told_nodup hz.z.good)))
            clear hz hb9 hc9
            obtain ⟨ps, hps⟩ : ∃ ps, pagesH H9 [] = ps := ⟨_, rfl⟩
            rw [hps] at HPG B9
            clear hps
            go_wp2_with fail
            refine HPG.out.mono ?_; rintro e w10 ⟨a9, k9, cap9, rfl, hs9, hk1, hk2, hin9, hb⟩
            obtain rfl : k9 = ps.length := hs9.len
            obtain ⟨S9, hS9⟩ : ∃ S9 : Nat → Prop, (fun k => wr.heap.size ≤ k ∧ k < w10.heap.size) = S9 := ⟨_, rfl⟩
            have hz10 := (Z9.out.ours hb).forget (S' := S9) fun k hk => .inr (by rw [← hS9] at hk; exact hk)
            have hS9s : ps ≠ [] → ∀ k, In (.slice a9 ps.length cap9) k → S9 k := fun hne k hk => by rw [← hS9]; exact ⟨hin9 k hk, seq_lt hs9 hne (by decide) hk⟩
            have I10 := Lib.hid (show GatR w K h p g q ps (.slice a9 ps.length cap9) S9 (.int .i64 0) w10 from ⟨0, H9, A9, L9, Nat.zero_le _, rfl, hz10, B9.out.1, B9.out.2.1, fun _ => hs9⟩)
            have KS := Lib.hid hS9s
            have hps9 : ps.length ≤ 9223372036854775807 := by omega
            clear hs9 hin9 hb hz10 hS9 hS9s
            go_wp2
            go_loopw [144] (fun i wr => GatR w K h p g q ps (.slice a9 ps.length cap9) S9 i wr) (fun i _ => ps.length - (intOf i).toNat)
            case atStart => exact I10.out
            case round =>
              clear I10
              obtain ⟨t, H5, A5, L5, ht5, rfl, hz, hb5, hg5, hsq⟩ := hrel
              by_cases htp : t < ps.length
              · obtain ⟨x, hx⟩ : ∃ x, ps[t]? = some x := ⟨_, List.getElem?_eq_getElem htp⟩
                have hdrop : ps.drop t = x :: ps.drop (t + 1) := by
                  rw [List.drop_eq_getElem_cons htp]
                  rw [List.getElem?_eq_getElem htp] at hx
                  injection hx with hx
                  rw [hx]
                have hne : ps ≠ [] := fun e => by rw [e] at htp; exact absurd htp (by simp)
                have hsq' := hsq hne
                obtain ⟨bk, off, ea, hcell⟩ := hsq'.elem hx
                subst ea
                have c0 : wr.cell? ⟨bk, off + t, none⟩ = some (.int .u64 (x : Int)) := by
                  have := hcell 0 _ rfl
                  simpa [Elem.u64s] using this
                rw [hdrop] at hg5
                have hnd : (x :: ps.drop (t + 1)).Nodup := by rw [← hdrop]; exact B9.out.2.2.sublist (List.drop_sublist _ _)
                obtain ⟨X, hX, o, ho, ex⟩ := hg5.there x (List.mem_cons_self ..)
                have GA := Lib.hid (ox_gather hz hX ho)
                rw [← ex] at GA
                have BG := Lib.hid (fun P => And.intro (busy_gath (A := A5) hz.good hb5 hX ho P) (GatI.step (A := A5) (P := P) hz.good hg5 hnd hX ho ex))
                have SQ := Lib.hid hsq'
                have t4 : decide ((t : Int) < (ps.length : Int)) = true := decide_eq_true (by omega)
                clear hz hb5 hg5 hsq hsq' hcell hx hdrop hnd hX ho ex
                go_wp2_with fail
                refine GA.out.mono ?_; rintro e w11 ⟨n11, P11, L11, rfl, hn11, y11, u11⟩
                have Z11 := Lib.hid y11; have SQ11 := Lib.hid (SQ.out.upd u11 fun k hk x => x (KS.out hne k hk))
                clear y11 u11 c0
                go_wp2_with fail
                go_roundw
                case rel => exact ⟨t + 1, _, _, L11, by omega, by go_num, Z11.out, (BG.out P11).1, (BG.out P11).2, fun _ => SQ11.out⟩
                case measure => simp [intOf]; omega
              · obtain rfl : t = ps.length := by omega
                have t4 : decide ((ps.length : Int) < (ps.length : Int)) = false := decide_eq_false (by omega)
                rw [List.drop_length] at hg5
                have hnil := busy_nil hb5 hz.hu fun X hX o ho => Classical.byContradiction fun hw => by cases hg5.word X hX o ho hw
                have h0 : total A5.l = 0 := by
                  obtain ⟨g1, g2, _⟩ := hz.oh.arena
                  rw [arena_len hz.good g1 g2, hnil]; rfl
                have hpn := pages_none hz.good hnil
                have P9 := Lib.hid hz; have H0 := Lib.hid (And.intro hnil (And.intro h0 hpn))
                clear hz hb5 hg5 hsq hnil h0 hpn
                go_wp2_with fail
                refine (oh_segs P9.out.oh).mono ?_; rintro e w12 ⟨a12, k12, c12, S12, rfl, hs12, hl12, _, _, _, hb⟩
                obtain rfl : k12 = 0 := by rw [hs12.len, hl12, H0.out.1]; rfl
                have P10 := Lib.hid (P9.out.grew hb)
                clear hs12 hl12 hb
                go_wp2_with fail
                refine (oh_pages P10.out.oh (Arr.nil w12) (show (0 : Nat) ≤ 1000 by decide)).mono ?_; rintro e w13 ⟨a13, k13, c13, rfl, hs13, _, _, _, hb⟩
                obtain rfl : k13 = 0 := hs13.len.trans H0.out.2.2
                have P11 := Lib.hid (P10.out.grew hb)
                clear hs13 hb
                go_wp2_with fail
                refine (oh_given P11.out.oh).mono ?_; rintro e w14 ⟨rfl, hb⟩
                have P12 := Lib.hid (P11.out.grew hb)
                rw [H0.out.2.1]
                clear hb
                go_wp2
                go_ret
                exact ⟨rfl, P12.out.below⟩
end Go.Proofs.YtmjeelnidiijdaaGreatDoor.heapBack
