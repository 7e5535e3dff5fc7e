/- The law HeapApart, walked (written by genapart12.py). -/
import Derived.Test.YtmjeelnidiijdaaGreatDoorAlives12
import Derived.Test.YtmjeelnidiijdaaGreatDoorAct12
import Derived.Test.YtmjeelnidiijdaaGreatDoorGets12
import Derived.Test.YtmjeelnidiijdaaGreatDoorApart12
import Derived.Deep.RegionLaw
import Derived.RegionTactic
namespace Go.Proofs.YtmjeelnidiijdaaGreatDoor.heapApart
open Go.RowKit ListMath PageMath GeoMath SegMath ClassMath HeapMath QueueMath ArenaMath
set_option linter.unusedVariables false

theorem infoOne : (Tryz.prog.info? 56).map (fun i => (i.zero, i.size, i.bytes)) = some (some (.agg #[.int .u64 0, .int .u64 0, .int .u8 0]), 3, 24) := by kernel_rfl
theorem sizeOne (w : World) : (sizeOf (Tryz.prog.elem 52)).run Tryz.prog w = .ok oneE.size w := by kernel_rfl
theorem below_in {B : Nat} {a w1 w2 : World} {v1 : Value} (hb : Below B a w1) (hB : B ≤ w1.heap.size) (hin : ∀ k, In v1 k → B ≤ k) (u : Upd (In v1) w1 w2) : Below B a w2 := hb.trans (u.below hin hB)
theorem free_r (H : HS) (A : St) (x : Nat) : (freeH H A x).1.2.r = A.r := by
  unfold freeH
  split
  · rfl
  · split
    · rfl
    · unfold tidyH
      split
      · rfl
      · split
        · unfold release
          split <;> rfl
        · rfl
theorem one_at (w : World) (t : TypeId) (x s c g : Nat) (hg : g = w.heap.size) : Seq oneE (w.alloc (.cells #[.int .u64 (x : Int), .int .u64 (s : Int), .int .u8 (c : Int)] t)) (.slice (some ⟨g, 0, none⟩) 1 1) [(x, s, c)] := by
  subst hg
  exact Seq.new (E := oneE) w t [(x, s, c)] 1
theorem byte_at (w : World) (t : TypeId) (c g : Nat) (hg : g = w.heap.size) : Reads8 (w.alloc (.cells #[.int .u8 (c : Int)] t)) (.slice (some ⟨g, 0, none⟩) 1 1) [c] := by
  subst hg
  refine .inl ⟨_, 0, 1, rfl, fun j hj => ?_⟩
  obtain rfl : j = 0 := by simp at hj; omega
  exact (Blk.new w t #[.int .u8 (c : Int)]).cell 0
theorem newAt {α : Type} {E : Elem α} (w : World) (t : TypeId) (g : Nat) (hg : g = w.heap.size) : Vec E (w.alloc (.cells #[] t)) (.slice (some ⟨g, 0, none⟩) 0 0) [] := by subst hg; exact Vec.new w t
theorem in_at9 {g n c k : Nat} (h : In (.slice (some ⟨g, 0, none⟩) n c) k) : g = k := by injection h
theorem cut_run {P : Program} {α : Type} {E : Elem α} (t : TypeId) (ht : P.underlying t = some (.slice (P.elem t))) (hsz : ∀ w, (sizeOf (P.elem t)).run P w = .ok E.size w) (a : Option Addr) (n cap k : Nat) (hk : k ≤ cap) (w : World) :
    (Instr.slice t (.slice a n cap) none (some (.int .i64 (k : Int))) none).run P w = .ok (.slice a k cap) w := by
  rw [run_slice_h (P := P) (w := w) t a n cap ht .i64 (k : Int) (by omega) (by omega), hsz]
  simp only [Result.andThen_ok, sliced, Int.toNat_natCast, Nat.sub_zero, addr_at0, ite_self]
/-- At act t: what has been noted is there. -/
def ActR (w : World) {C : SgC w} (K : HpC w C) (h p g q n : Nat) (v i : Value) (wr : World) : Prop :=
  ∃ (t : Nat) (H : HS) (A : St) (L : List Nat) (l : List (Nat × Nat × Nat)), t ≤ n ∧ i = .int .i64 (t : Int) ∧ OA C K h 7 p g q H A L (l.map (·.1)) v l wr ∧ Told L l ∧ Sized H l ∧ A.r ≤ t ∧ l.length ≤ t
/-- Nothing has changed but for new blocks. -/
def ReadR (wa : World) (n : Nat) (i : Value) (wr : World) : Prop :=
  ∃ (t : Nat), t ≤ n ∧ i = .int .i64 (t : Int) ∧ Below wa.heap.size wa wr
set_option maxRecDepth 100000 in
set_option maxHeartbeats 8000000 in
theorem walk_of (w : World) {C : SgC w} (K : HpC w C) (F : Fo w) {a : Option Addr} {n cap : Nat} (len : Nat) (G : Nat → Nat → Value) (hr : Recs w (.slice a n cap) [.num .i64, .num .i64, .num .i64, .num .i64, .num .u64] len G) :
    Calls Tryz.prog 4 #[.slice a n cap] w fun e w' => e = .returned (.bool true) ∧ Below w.heap.size w w' := by
  obtain ⟨rfl, hn1, hn2⟩ := hr.len
  have HR := Lib.hid hr
  have AL := Lib.hid (alive_h w K F)
  clear hr
  obtain ⟨i0, hi, hz0, hz1, hz2⟩ := info_parts infoOne
  obtain ⟨tb, htb⟩ : ∃ tb, decide (100 < (n : Int)) = tb := ⟨_, rfl⟩
  have htb' : decide (100 < n) = tb := by rw [← htb]; exact decide_eq_decide.2 (by omega)
  have HT := Lib.hid htb
  go_enter Tryz.func4, Tryz.ntmps4
  go_wp2_with fail
  refine AL.out.mono ?_; rintro e w1 ⟨rfl, hb⟩
  have B1 := Lib.hid hb
  clear hb
  go_wp2_with fail
  refine (made_any (K := K) B1.out (segs := 8) (lim := 8) (by decide) (by decide) (by decide)).mono ?_; rintro e w2 ⟨h, p, g, q, rfl, z⟩
  obtain ⟨L0, _, z0⟩ := z.ox
  have Z2 := Lib.hid z0.oa
  have I0 := Lib.hid (show ActR w K h p g q n (.slice none 0 0) (.int .i64 0) w2 from ⟨0, _, _, L0, [], Nat.zero_le _, rfl, Z2.out, (fun x hx => by cases hx), (fun x hx => by cases hx), Nat.le_refl _, Nat.le_refl _⟩)
  clear z z0
  cases tb with
  | true =>
    go_wp2
    go_ret
    exact ⟨rfl, Z2.out.z.below⟩
  | false =>
    have hn100 : n ≤ 100 := by have := of_decide_eq_false HT.out; omega
    clear htb htb'
    go_wp2_with fail
    go_loopw [7, 40] (fun v i wr => ActR w K h p g q n v i wr) (fun v i _ => n - (intOf i).toNat)
    case atStart => exact I0.out
    case round =>
      clear I0
      obtain ⟨t, H, A, L, l, ht, rfl, ho, htl, hsz, hA, hll⟩ := hrel
      obtain ⟨a1, c1, rfl, hc1, hc2⟩ := ho.vec.slice'
      obtain ⟨m, hm⟩ : ∃ z, l.length = z := ⟨_, rfl⟩
      rw [hm] at ho hc1 hll ⊢
      have HM := Lib.hid hm
      have TS := Lib.hid (And.intro htl hsz)
      have HA := Lib.hid hA
      have hm100 : m ≤ 100 := by omega
      clear hm htl hsz hA
      by_cases htn : t < n
      · obtain ⟨b, off, k, z, sl, wh, X, ea, hc, hk, hz, hs, hwh, hX⟩ := act12 HR.out htn
        obtain ⟨d0, d1, d2, d3, d4⟩ := hc wr ho.z.below
        subst ea
        have bA := Blk.new wr 44 #[.int .i64 k, .int .i64 z, .int .i64 sl, .int .i64 wh, .int .u64 (X : Int)]
        have hm := ho.alloc (.cells #[.int .i64 k, .int .i64 z, .int .i64 sl, .int .i64 wh, .int .u64 (X : Int)] 44)
        obtain ⟨W1, hW1⟩ : ∃ Wz, wr.alloc (.cells #[.int .i64 k, .int .i64 z, .int .i64 sl, .int .i64 wh, .int .u64 (X : Int)] 44) = Wz := ⟨_, rfl⟩
        obtain ⟨bc, hbc⟩ : ∃ bz, wr.heap.size = bz := ⟨_, rfl⟩
        rw [hW1, hbc] at bA
        rw [hW1] at hm
        have m0 : W1.cell? ⟨bc, 0, none⟩ = some (.int .i64 k) := bA.cell 0
        have m3 : W1.cell? ⟨bc, 3, none⟩ = some (.int .i64 wh) := bA.cell 3
        have m4 : W1.cell? ⟨bc, 4, none⟩ = some (.int .u64 (X : Int)) := bA.cell 4
        have Z1 := Lib.hid hm
        have HX := Lib.hid hX
        have HRC := Lib.hid hwh
        have t2 : decide ((t : Int) < (n : Int)) = true := decide_eq_true (by omega)
        have t2' : decide (t < n) = true := decide_eq_true htn
        have q3 : (0 : Int) ≤ (t : Int) := by omega
        have q4 : (t : Int) < (n : Int) := by omega
        have wt : IntKind.u8.wrap (t : Int) = (t : Int) := IntWalk.u8_in _ ⟨by omega, by omega⟩
        have HLL := Lib.hid hll
        clear hc ho bA hm hz hs hwh hk hX hll
        by_cases hk3 : k = 3
        · subst hk3
          by_cases hm0 : m = 0
          · have e2 : decide ((0 : Int) < (m : Int)) = false := decide_eq_false (by omega)
            have e2' : decide (0 < m) = false := decide_eq_false (by omega)
            clear hm0
            go_wp2_with fail
            clear hW1 hbc d0 d1 d2 d3 d4 m0 m3 m4
            refine (get_any F Z1.out.z (by have := HA.out; omega) X HX.out).mono ?_; rintro e w4 ⟨y, us, ok, P, H', A', L', rfl, gt⟩
            have GT := Lib.hid gt
            clear gt
            have hr4 : A'.r ≤ t + 1 := by have := GT.out.r; have := HA.out; omega
            have hU : ∀ x ∈ l, x.1 ∈ l.map (·.1) := fun x hx => List.mem_map.2 ⟨x, hx, rfl⟩
            have TS4 := Lib.hid (And.intro (TS.out.1.kept TS.out.2 hU GT.out.ent) hr4)
            clear hU hr4
            cases ok with
            | true =>
              obtain ⟨h9, hy, y4, X4, hX4, o4, ho4, h8, hs4, hb4⟩ := GT.out.hit rfl
              clear h9 h8
              have Z4 := Lib.hid (Z1.out.next y4 GT.out.still)
              have hr8 := byte_at w4 5 t w4.heap.size rfl
              have hyU : y ∈ l.map (·.1) ++ [y] := List.mem_append_right _ (List.mem_singleton.2 rfl)
              have HFL := Lib.hid (ox_fill (Z4.out.alloc (.cells #[.int .u8 (t : Int)] 5)).z hyU hX4 ho4 hb4 hs4 hr8 (by omega))
              have h16 : y % 16 = 0 := blk16 (y4.good.seg X4 hX4).g ho4 hb4
              have h16' : (y : Int) % 16 = 0 := by omega
              have h16'' : Int.tmod (y : Int) 16 = 0 := by rw [Int.tmod_eq_emod_of_nonneg (by omega)]; exact h16'
              have TA := Lib.hid (fun (L5 : List Nat) h1 h2 => told_add (L' := L5) (c := t) y4.good y4.hu TS4.out.1.1 TS4.out.1.2 hX4 ho4 hb4 hs4 h1 h2)
              clear hy y4 hX4 ho4 hb4 hs4 hr8 hyU
              go_wp2_with fail
              refine HFL.out.mono ?_; rintro e w5 ⟨rfl, L5, hl5, hout, hin, y5, u5⟩
              have Z5 := Lib.hid ((Z4.out.alloc _).next y5 u5)
              have TS5 := Lib.hid (TA.out L5 hout hin)
              have e5 : (l ++ [(y, us, t)]).length = m + 1 := by rw [List.length_append, HM.out]; rfl
              clear hl5 hout hin y5 u5
              go_wp2_with (at_builtin; refine wpList_append_vec (E := oneE) rfl (.tmp 99) (.tmp 105) 52 rfl 56 i0 (.agg #[.int .u64 0, .int .u64 0, .int .u8 0]) 24 Tryz.underlying52 hi hz0 hz1 hz2 rfl (.slice a1 m c1) (.slice (some ⟨w5.heap.size, 0, none⟩) 1 1) l [(y, us, t)] rfl rfl (Z5.out.alloc _).vec (one_at w5 56 y us t _ rfl) ?_ ?_ ?_; (rw [HM.out]; simp only [maxLen, List.length_cons, List.length_nil]; omega); (rw [HM.out]; simp only [List.length_cons, List.length_nil]; omega); intro v2 w7 hv2 hu2 hin2; obtain ⟨a2, cap2, rfl, hc3, hc4⟩ := hv2.slice'; rw [e5] at hv2 hin2 ⊢; have Z7 := Lib.hid ((Z5.out.alloc _).turn hu2 hv2 hin2); clear hv2 hu2 hin2)
              go_roundw
              case rel =>
                refine ⟨t + 1, H', A', L5, l ++ [(y, us, t)], by omega, by go_num, ?_, TS5.out.1, TS5.out.2, TS4.out.2, by rw [e5]; have := HLL.out; omega⟩
                rw [List.map_append]
                exact Z7.out
              case measure => simp [intOf]; omega
            | false =>
              have Z4 := Lib.hid (Z1.out.next (GT.out.miss rfl) GT.out.still)
              go_wp2
              go_roundw
              case rel => exact ⟨t + 1, H', A', L', l, by omega, by go_num, Z4.out, TS4.out.1.1, TS4.out.1.2, TS4.out.2, by rw [HM.out]; have := HLL.out; omega⟩
              case measure => simp [intOf]; omega
          · have e2 : decide ((0 : Int) < (m : Int)) = true := decide_eq_true (by omega)
            have e2' : decide (0 < m) = true := decide_eq_true (by omega)
            have e3 : ((m : Int) == 0) = false := by rw [beq_eq_false_iff_ne]; omega
            have e3' : ¬ (m = 0) := hm0
            obtain ⟨r, hr⟩ : ∃ r, Int.tmod wh (m : Int) = r := ⟨_, rfl⟩
            have hr1 : r < (m : Int) := by rw [← hr]; exact Int.tmod_lt_of_pos _ (by omega)
            obtain ⟨j, hjz⟩ : ∃ j : Nat, (if r > 0 then r else 0) = (j : Int) ∧ j < m := by
              by_cases h0 : r > 0
              · exact ⟨r.toNat, by rw [if_pos h0]; omega, by omega⟩
              · exact ⟨0, by rw [if_neg h0]; rfl, by omega⟩
            have hmx : ∀ w, (Builtin.max_ #[3, 3] 3 #[.int .i64 0, .int .i64 r]).run Tryz.prog w = .ok (.int .i64 (j : Int)) w := fun w => by rw [run_max_int2, hjz.1]
            have hj1 : (0 : Int) ≤ (j : Int) := by omega
            have hj2 : (j : Int) < (m : Int) := by omega
            have hjl : j < l.length := by rw [HM.out]; exact hjz.2
            obtain ⟨⟨x, s, c⟩, hx⟩ : ∃ y, l[j]? = some y := ⟨l[j], List.getElem?_eq_getElem hjl⟩
            obtain ⟨g3, off3, ea, hcl⟩ := Z1.out.cells hx
            obtain ⟨p0, _, _⟩ := hcl W1 (Below.refl _ _)
            subst ea
            have hperm := cut_perm hx
            simp only at p0
            have hxu : U64B x := Z1.out.z.u64 (hperm.mem_iff.1 (List.mem_cons_self ..))
            have HP := Lib.hid hperm; have HXU := Lib.hid hxu
            clear hcl hx hperm hxu hjl hjz hr1
            go_wp2_with fail
            clear hW1 hbc d0 d1 d2 d3 d4 m0 m3 m4 p0 hmx e3 e3' hr
            refine (ox_free Z1.out.z HP.out HXU.out).mono ?_; rintro e w4 ⟨rfl, L4, hl4, hek, y4, u4⟩
            have hts := told_cut TS.out.1 TS.out.2 hek
            have hfr : (freeH H A x).1.2.r ≤ t + 1 := by rw [free_r]; exact Nat.le_succ_of_le HA.out
            have Z4 := Lib.hid (Z1.out.next y4 u4)
            have TS4 := Lib.hid (And.intro hts hfr)
            clear hts hfr hek y4 u4 hl4
            obtain ⟨sv1, hs1, hi1, hq1⟩ := cut_to (E := oneE) (P := Tryz.prog) 52 Tryz.underlying52 sizeOne (some ⟨g3, off3, none⟩) m c1 j (by omega)
            obtain ⟨sv2, hs2, hi2, hq2, _⟩ := cut_from (E := oneE) (P := Tryz.prog) 52 Tryz.underlying52 sizeOne (some ⟨g3, off3, none⟩) m c1 (j + 1) (by omega) hc1
            rw [show ((j + 1 : Nat) : Int) = (j : Int) + 1 by omega] at hs2
            have hwj : IntKind.i64.wrap ((j : Int) + 1) = (j : Int) + 1 := IntWalk.i64_in _ ⟨by omega, by omega⟩
            have len1 : (l.take j).length ≤ 100 := by rw [List.length_take, HM.out]; omega
            have len2 : (l.drop (j + 1)).length ≤ 100 := by rw [List.length_drop, HM.out]; omega
            have SQ : Hid (∀ w', Below w4.heap.size w4 w' → Seq oneE w' sv1 (l.take j) ∧ Seq oneE w' sv2 (l.drop (j + 1))) :=
              Lib.hid fun w' hb => by
                have r := (Z4.out.grew hb).vec.seq
                exact ⟨hq1 _ _ r (by omega), hq2 _ _ r⟩
            clear hi1 hq1 hi2 hq2
            have NW := Below.refl w4.heap.size w4
            have hle4 := Nat.le_refl w4.heap.size
            go_wp2_with fail
            go_region_law (first
              | (refine step_append_vec (E := oneE) rfl (.tmp 67) (.tmp 70) 52 rfl 56 i0 (.agg #[.int .u64 0, .int .u64 0, .int .u8 0]) 24 Tryz.underlying52 hi hz0 hz1 hz2 rfl (.slice (some ⟨w4.heap.size, 0, none⟩) 0 0) sv1 [] (l.take j) ?_ ?_ ?_ ?_ ?_ ?_ ?_
                 · go_simp
                 · go_simp
                 · first | exact newAt w4 _ _ rfl | exact (newAt w4 _ _ rfl).drew | exact newAt w4.drew _ _ rfl
                 · first | exact (SQ.out _ (NW.alloc hle4 _)).1 | exact (SQ.out _ (NW.alloc hle4 _).drew).1 | exact (SQ.out _ (NW.drew.alloc hle4 _)).1
                 · simp only [maxLen, List.length_nil]; omega
                 · simp only [List.length_nil]; omega
                 intro v1 w5 hv1 hu1 hin1
                 have NB : Hid (Below w4.heap.size w4 w5) := Lib.hid (by
                   refine Below.trans ?_ (hu1.below (B := w4.heap.size) (fun k hk => by have := in_at9 hk; omega) ?_)
                   · first | exact NW.alloc hle4 _ | exact (NW.alloc hle4 _).drew | exact NW.drew.alloc hle4 _
                   · first | exact (NW.alloc hle4 _).size | exact (NW.drew.alloc hle4 _).size)
                 have N1 : Hid (∀ k, In v1 k → w4.heap.size ≤ k) := Lib.hid (fun k hk => by rcases hin1 k hk with x | x; (have := in_at9 x; omega); (simp at x; omega))
                 have V1 := Lib.hid hv1
                 clear hv1 hu1 hin1)
              | (refine step_append_vec (E := oneE) rfl (.tmp 71) (.tmp 75) 52 rfl 56 i0 (.agg #[.int .u64 0, .int .u64 0, .int .u8 0]) 24 Tryz.underlying52 hi hz0 hz1 hz2 rfl v1 sv2 ([] ++ l.take j) (l.drop (j + 1)) ?_ ?_ V1.out (SQ.out _ NB.out).2 ?_ ?_ ?_
                 · go_simp
                 · go_simp
                 · simp only [maxLen, List.nil_append]; omega
                 · simp only [List.nil_append]; omega
                 intro v2 w6 hv2 hu2 hin2
                 obtain ⟨a2, n2, cap2, rfl⟩ := hv2.is
                 have NC := Lib.hid (below_in NB.out NB.out.size N1.out hu2)
                 have V2 := Lib.hid hv2
                 have N2 : Hid (∀ k, In (.slice a2 n2 cap2) k → w4.heap.size ≤ k) := Lib.hid (fun k hk => by rcases hin2 k hk with x | x; exact N1.out k x; exact Nat.le_trans NB.out.size x)
                 clear hv2 hu2 hin2))
            all_goals
              clear hs1 hs2 hwj
              go_wp2
              go_roundw
              case rel =>
                have hv := V2.out
                rw [List.nil_append] at hv
                refine ⟨t + 1, _, _, L4, l.take j ++ l.drop (j + 1), by omega, by go_num, Z4.out.turn ((updFalse_of NC.out).mono fun _ x => x.elim) hv fun k hk => .inr (N2.out k hk), TS4.out.1.1, TS4.out.1.2, TS4.out.2, ?_⟩
                have := HLL.out
                rw [List.length_append, List.length_take, List.length_drop, HM.out]
                omega
              case measure => simp [intOf]; omega
        · have hk3' : decide (k = 3) = false := decide_eq_false hk3
          have hk3'' : (k == 3) = false := by rw [beq_eq_false_iff_ne]; exact hk3
          go_wp2_with fail
          clear hW1 hbc d0 d1 d2 d3 d4 m0 m3 m4
          refine (get_any F Z1.out.z (by have := HA.out; omega) X HX.out).mono ?_; rintro e w4 ⟨y, us, ok, P, H', A', L', rfl, gt⟩
          have GT := Lib.hid gt
          clear gt
          have hr4 : A'.r ≤ t + 1 := by have := GT.out.r; have := HA.out; omega
          have hU : ∀ x ∈ l, x.1 ∈ l.map (·.1) := fun x hx => List.mem_map.2 ⟨x, hx, rfl⟩
          have TS4 := Lib.hid (And.intro (TS.out.1.kept TS.out.2 hU GT.out.ent) hr4)
          clear hU hr4
          cases ok with
          | true =>
            obtain ⟨h9, hy, y4, X4, hX4, o4, ho4, h8, hs4, hb4⟩ := GT.out.hit rfl
            clear h9 h8
            have Z4 := Lib.hid (Z1.out.next y4 GT.out.still)
            have hr8 := byte_at w4 5 t w4.heap.size rfl
            have hyU : y ∈ l.map (·.1) ++ [y] := List.mem_append_right _ (List.mem_singleton.2 rfl)
            have HFL := Lib.hid (ox_fill (Z4.out.alloc (.cells #[.int .u8 (t : Int)] 5)).z hyU hX4 ho4 hb4 hs4 hr8 (by omega))
            have h16 : y % 16 = 0 := blk16 (y4.good.seg X4 hX4).g ho4 hb4
            have h16' : (y : Int) % 16 = 0 := by omega
            have h16'' : Int.tmod (y : Int) 16 = 0 := by rw [Int.tmod_eq_emod_of_nonneg (by omega)]; exact h16'
            have TA := Lib.hid (fun (L5 : List Nat) h1 h2 => told_add (L' := L5) (c := t) y4.good y4.hu TS4.out.1.1 TS4.out.1.2 hX4 ho4 hb4 hs4 h1 h2)
            clear hy y4 hX4 ho4 hb4 hs4 hr8 hyU
            go_wp2_with fail
            refine HFL.out.mono ?_; rintro e w5 ⟨rfl, L5, hl5, hout, hin, y5, u5⟩
            have Z5 := Lib.hid ((Z4.out.alloc _).next y5 u5)
            have TS5 := Lib.hid (TA.out L5 hout hin)
            have e5 : (l ++ [(y, us, t)]).length = m + 1 := by rw [List.length_append, HM.out]; rfl
            clear hl5 hout hin y5 u5
            go_wp2_with (at_builtin; refine wpList_append_vec (E := oneE) rfl (.tmp 99) (.tmp 105) 52 rfl 56 i0 (.agg #[.int .u64 0, .int .u64 0, .int .u8 0]) 24 Tryz.underlying52 hi hz0 hz1 hz2 rfl (.slice a1 m c1) (.slice (some ⟨w5.heap.size, 0, none⟩) 1 1) l [(y, us, t)] rfl rfl (Z5.out.alloc _).vec (one_at w5 56 y us t _ rfl) ?_ ?_ ?_; (rw [HM.out]; simp only [maxLen, List.length_cons, List.length_nil]; omega); (rw [HM.out]; simp only [List.length_cons, List.length_nil]; omega); intro v2 w7 hv2 hu2 hin2; obtain ⟨a2, cap2, rfl, hc3, hc4⟩ := hv2.slice'; rw [e5] at hv2 hin2 ⊢; have Z7 := Lib.hid ((Z5.out.alloc _).turn hu2 hv2 hin2); clear hv2 hu2 hin2)
            go_roundw
            case rel =>
              refine ⟨t + 1, H', A', L5, l ++ [(y, us, t)], by omega, by go_num, ?_, TS5.out.1, TS5.out.2, TS4.out.2, by rw [e5]; have := HLL.out; omega⟩
              rw [List.map_append]
              exact Z7.out
            case measure => simp [intOf]; omega
          | false =>
            have Z4 := Lib.hid (Z1.out.next (GT.out.miss rfl) GT.out.still)
            go_wp2
            go_roundw
            case rel => exact ⟨t + 1, H', A', L', l, by omega, by go_num, Z4.out, TS4.out.1.1, TS4.out.1.2, TS4.out.2, by rw [HM.out]; have := HLL.out; omega⟩
            case measure => simp [intOf]; omega
      · have t2 : decide ((t : Int) < (n : Int)) = false := decide_eq_false (by omega)
        have t2' : decide (t < n) = false := decide_eq_false htn
        have GD := Lib.hid ho.z.good
        have HV := Lib.hid ho.z.hu
        have J0 := Lib.hid (show ReadR wr m (.int .i64 0) wr from ⟨0, Nat.zero_le _, rfl, Below.refl _ _⟩)
        have ZE := Lib.hid ho
        have hU : ∀ x ∈ l, x.1 ∈ l.map (·.1) := fun x hx => List.mem_map.2 ⟨x, hx, rfl⟩
        have HW := Lib.hid hU
        clear ho hll hU
        go_wp2_with fail
        go_loopw [110] (fun i wx => ReadR wr m i wx) (fun i _ => m - (intOf i).toNat)
        case atStart => exact J0.out
        case round =>
          clear J0
          obtain ⟨j, hj, rfl, hb⟩ := hrel
          by_cases hjm : j < m
          · obtain ⟨⟨x, s, c⟩, hx⟩ : ∃ y, l[j]? = some y := ⟨l[j]'(by rw [HM.out]; exact hjm), List.getElem?_eq_getElem _⟩
            have hz := ZE.out.grew hb
            obtain ⟨g3, off3, ea, hcl⟩ := hz.cells hx
            subst ea
            obtain ⟨p0, p1, p2⟩ := hcl wr (Below.refl _ _)
            simp only at p0 p1 p2
            have hxl := List.mem_of_getElem? hx
            have hin := sized_in GD.out HV.out TS.out.2 HW.out hxl
            simp only at hin
            have hxs : x + s ≤ 1048576 := by omega
            have HIN := Lib.hid hin.1
            have HTX := Lib.hid (TS.out.1 _ hxl)
            have HX := Lib.hid hx
            have bA := Blk.new wr 56 #[.int .u64 (x : Int), .int .u64 (s : Int), .int .u8 (c : Int)]
            have hz1 := hz.alloc (.cells #[.int .u64 (x : Int), .int .u64 (s : Int), .int .u8 (c : Int)] 56)
            have hgr := hb.alloc hb.size (.cells #[.int .u64 (x : Int), .int .u64 (s : Int), .int .u8 (c : Int)] 56)
            obtain ⟨W1, hW1⟩ : ∃ Wz, wr.alloc (.cells #[.int .u64 (x : Int), .int .u64 (s : Int), .int .u8 (c : Int)] 56) = Wz := ⟨_, rfl⟩
            obtain ⟨bo, hbo⟩ : ∃ bz, wr.heap.size = bz := ⟨_, rfl⟩
            rw [hW1, hbo] at bA
            rw [hW1] at hz1 hgr
            have n0 : W1.cell? ⟨bo, 0, none⟩ = some (.int .u64 (x : Int)) := bA.cell 0
            have n1 : W1.cell? ⟨bo, 1, none⟩ = some (.int .u64 (s : Int)) := bA.cell 1
            have Z6 := Lib.hid hz1; have BA := Lib.hid bA; have HG := Lib.hid hgr
            have t3 : decide ((j : Int) < (m : Int)) = true := decide_eq_true (by omega)
            have t3' : decide (j < m) = true := decide_eq_true hjm
            have q3 : (0 : Int) ≤ (j : Int) := by omega
            have q4 : (j : Int) < (m : Int) := by omega
            clear hz hcl hxl hin hx bA hz1 hgr hb
            go_wp2_with fail
            clear hW1 hbo p0 p1 p2 n0 n1
            refine (got_all Z6.out.z.mem HIN.out HTX.out).mono ?_; rintro e w7 ⟨b, cp, rfl, hcb, hb7⟩
            have Z7 := Lib.hid (Z6.out.grew hb7)
            have B7 := Lib.hid (BA.out.grew hb7)
            have HG7 := Lib.hid (HG.out.trans (hb7.mono HG.out.size))
            have CB := Lib.hid hcb
            have J1 := Lib.hid (show ReadR w7 s (.int .i64 0) w7 from ⟨0, Nat.zero_le _, rfl, Below.refl _ _⟩)
            clear hcb hb7
            go_wp2_with fail
            go_loopw [128] (fun i wx => ReadR w7 s i wx) (fun i _ => s - (intOf i).toNat)
            case atStart => exact J1.out
            case round =>
              clear J1
              obtain ⟨i, hi9, rfl, hb9⟩ := hrel
              by_cases his : i < s
              · have c1 : wr.cell? ⟨b, i, none⟩ = some (.int .u8 (c : Int)) := cell_then (CB.out i his) hb9
                have c2 : wr.cell? ⟨bo, 2, none⟩ = some (.int .u8 (c : Int)) := (B7.out.grew hb9).cell 2
                have t4 : decide ((i : Int) < (s : Int)) = true := decide_eq_true (by omega)
                have t4' : decide (i < s) = true := decide_eq_true his
                have q5 : (0 : Int) ≤ (i : Int) := by omega
                have q6 : (i : Int) < (s : Int) := by omega
                have HB9 := Lib.hid hb9
                clear hb9
                go_wp2
                go_roundw
                case rel => exact ⟨i + 1, by omega, by go_num, HB9.out⟩
                case measure => simp [intOf]; omega
              · have t4 : decide ((i : Int) < (s : Int)) = false := decide_eq_false (by omega)
                have t4' : decide (i < s) = false := decide_eq_false his
                have hs1 := cut_run (P := Tryz.prog) (E := oneE) 52 Tryz.underlying52 sizeOne (some ⟨g3, off3, none⟩) m c1 j (by omega)
                have J2 := Lib.hid (show ReadR wr j (.int .i64 0) wr from ⟨0, Nat.zero_le _, rfl, Below.refl _ _⟩)
                have Z8 := Lib.hid (Z7.out.grew hb9)
                have B8 := Lib.hid (B7.out.grew hb9)
                have HG8 := Lib.hid (HG7.out.trans (hb9.mono HG7.out.size))
                clear hb9
                go_wp2_with fail
                go_loopw [141] (fun i wx => ReadR wr j i wx) (fun i _ => j - (intOf i).toNat)
                case atStart => exact J2.out
                case round =>
                  clear J2
                  obtain ⟨i2, hi9, rfl, hb9⟩ := hrel
                  by_cases hij : i2 < j
                  · obtain ⟨⟨x2, s2, c2⟩, hx2⟩ : ∃ y, l[i2]? = some y := ⟨l[i2]'(by rw [HM.out]; omega), List.getElem?_eq_getElem _⟩
                    obtain ⟨g4, off4, ea, hcl⟩ := (Z8.out.grew hb9).cells hx2
                    injection ea with ea
                    injection ea with ea1 ea2
                    subst ea1 ea2
                    obtain ⟨p0, p1, p2⟩ := hcl wr (Below.refl _ _)
                    simp only at p0 p1 p2
                    have hin := sized_in GD.out HV.out TS.out.2 HW.out (List.mem_of_getElem? hx2)
                    simp only at hin
                    have hxs2 : x2 + s2 ≤ 1048576 := by omega
                    have hap := sized_apart GD.out HV.out TS.out.2 HX.out hx2 (by omega)
                    simp only at hap
                    have bA := Blk.new wr 56 #[.int .u64 (x2 : Int), .int .u64 (s2 : Int), .int .u8 (c2 : Int)]
                    have hgr := hb9.alloc hb9.size (.cells #[.int .u64 (x2 : Int), .int .u64 (s2 : Int), .int .u8 (c2 : Int)] 56)
                    obtain ⟨W1, hW1⟩ : ∃ Wz, wr.alloc (.cells #[.int .u64 (x2 : Int), .int .u64 (s2 : Int), .int .u8 (c2 : Int)] 56) = Wz := ⟨_, rfl⟩
                    obtain ⟨bp, hbp⟩ : ∃ bz, wr.heap.size = bz := ⟨_, rfl⟩
                    rw [hW1, hbp] at bA
                    rw [hW1] at hgr
                    have bo1 := B8.out.grew hgr
                    have n0 : W1.cell? ⟨bp, 0, none⟩ = some (.int .u64 (x2 : Int)) := bA.cell 0
                    have n1 : W1.cell? ⟨bp, 1, none⟩ = some (.int .u64 (s2 : Int)) := bA.cell 1
                    have k0 : W1.cell? ⟨bo, 0, none⟩ = some (.int .u64 (x : Int)) := bo1.cell 0
                    have k1 : W1.cell? ⟨bo, 1, none⟩ = some (.int .u64 (s : Int)) := bo1.cell 1
                    have HGR := Lib.hid hgr
                    have t5 : decide ((i2 : Int) < (j : Int)) = true := decide_eq_true (by omega)
                    have t5' : decide (i2 < j) = true := decide_eq_true hij
                    have q7 : (0 : Int) ≤ (i2 : Int) := by omega
                    have q8 : (i2 : Int) < (j : Int) := by omega
                    have wa : IntKind.u64.wrap ((x2 : Int) + (s2 : Int)) = (x2 : Int) + (s2 : Int) := u64_in _ ⟨by omega, by omega⟩
                    have wb : IntKind.u64.wrap ((x : Int) + (s : Int)) = (x : Int) + (s : Int) := u64_in _ ⟨by omega, by omega⟩
                    clear hcl hx2 hin bA bo1 hgr hb9
                    by_cases hlt : x < x2 + s2
                    · have r1 : decide ((x : Int) < (x2 : Int) + (s2 : Int)) = true := decide_eq_true (by omega)
                      have r2 : decide ((x2 : Int) < (x : Int) + (s : Int)) = false := decide_eq_false (by omega)
                      go_wp2
                      go_roundw
                      case rel => exact ⟨i2 + 1, by omega, by go_num, HGR.out⟩
                      case measure => simp [intOf]; omega
                    · have r1 : decide ((x : Int) < (x2 : Int) + (s2 : Int)) = false := decide_eq_false (by omega)
                      go_wp2
                      go_roundw
                      case rel => exact ⟨i2 + 1, by omega, by go_num, HGR.out⟩
                      case measure => simp [intOf]; omega
                  · have t5 : decide ((i2 : Int) < (j : Int)) = false := decide_eq_false (by omega)
                    have t5' : decide (i2 < j) = false := decide_eq_false hij
                    have HB9 := Lib.hid (HG8.out.trans (hb9.mono HG8.out.size))
                    clear hb9
                    go_wp2
                    go_roundw
                    case rel => exact ⟨j + 1, by omega, by go_num, HB9.out⟩
                    case measure => simp [intOf]; omega
          · have t3 : decide ((j : Int) < (m : Int)) = false := decide_eq_false (by omega)
            have t3' : decide (j < m) = false := decide_eq_false hjm
            have HB := Lib.hid (ZE.out.grew hb).z.below
            clear hb
            go_wp2
            go_ret
            exact ⟨rfl, HB.out⟩
end Go.Proofs.YtmjeelnidiijdaaGreatDoor.heapApart
