/- The law GeoApart, walked. -/
import Derived.Test.YtophomnbclgjfaaGeoMeetsWalk
import Derived.Test.YtophomnbclgjfaaRowsMath
import Derived.Test.YtophomnbclgjfaaQuiet
import Derived.Deep.RegionHeld3
namespace Go.Proofs.Ytophomnbclgjfaa.geoApart
open Go.RowKit GeoMath
set_option linter.unusedVariables false

theorem mod_of {n m k : Nat} (h : n % m = k) : Int.tmod (n : Int) (m : Int) = (k : Int) ∧ (n : Int) % (m : Int) = (k : Int) := by
  rw [← h]; exact ⟨(Int.ofNat_tmod _ _).symm, (Int.natCast_emod _ _).symm⟩
theorem u8_of {n : Int} (h : (Lit.int .u8 n).wf = true) : n = ((n.toNat : Nat) : Int) ∧ n.toNat ≤ 255 := by
  simp [Lit.wf, IntKind.min, IntKind.max, IntKind.signed, IntKind.bits] at h; omega
/-- The bytes that came in. -/
theorem bytesAt {w : World} {a : Option Addr} {nn cap : Nat} {l : List Int} (h : NumsAt w .u8 (.slice a nn cap) l) : ∃ L : List Nat, nn = L.length ∧ (∀ j, j < nn → L.getD j 0 ≤ 255) ∧ ∀ w', Below w.heap.size w w' → ∀ j, j < nn → ∃ b off, a = some ⟨b, off, none⟩ ∧ w'.cell? ⟨b, off + j, none⟩ = some (.int .u8 ((L.getD j 0 : Nat) : Int)) := by
  obtain ⟨a', cap', e, _, _, _, h4, h5⟩ := h
  injection e with e1 e2 e3
  subst e1 e2 e3
  have hget : ∀ j, j < l.length → ((l.map Int.toNat).getD j 0 ≤ 255 ∧ l.getD j 0 = (((l.map Int.toNat).getD j 0 : Nat) : Int)) := by
    intro j hj
    have hm : l[j]'hj ∈ l := List.getElem_mem hj
    have := u8_of (h5 _ hm)
    have e1 : l.getD j 0 = l[j]'hj := by simp [List.getD_eq_getElem?_getD, hj]
    have e2 : (l.map Int.toNat).getD j 0 = (l[j]'hj).toNat := by simp [List.getD_eq_getElem?_getD, hj]
    rw [e1, e2]; exact ⟨this.2, this.1⟩
  refine ⟨l.map Int.toNat, by simp, fun j hj => (hget j hj).1, fun w' hb j hj => ?_⟩
  obtain ⟨b, off, e, hc⟩ := h4 j hj
  refine ⟨b, off, e, ?_⟩
  rw [← (hget j hj).2]
  have hlt := World.block_lt_of_cell? w _ hc
  rw [hb.cell (p := ⟨b, off + j, none⟩) hlt]; exact hc
/-- One number of one run is put anew. -/
theorem runs_put {w : World} {g off n cap : Nat} {R : List Rn} {k f' : Nat} {x : Rn} (hn : n = R.length) (h : ∀ j u, (Elem.runs.all R)[j]? = some u → w.cell? ⟨g, off + j, none⟩ = some u) (hx : R[k]? = some x) :
    Seq Elem.runs (w.setCell ⟨g, off + k * 3, none⟩ (.int .u64 (f' : Int))) (.slice (some ⟨g, off, none⟩) n cap) (R.set k (f', x.2)) := by
  refine Seq.at (by rw [List.length_set]; exact hn) fun j u hj => ?_
  have hjl : j < R.length * 3 := by
    have := (List.getElem?_eq_some_iff.1 hj).1
    rw [Elem.length_all, List.length_set] at this
    exact this
  have hi : j / 3 < R.length := by omega
  have hkl : k < R.length := (List.getElem?_eq_some_iff.1 hx).1
  have hsz : j / 3 * Elem.runs.size + j % 3 = j := by simp only [Elem.runs]; omega
  by_cases hk : j / 3 = k
  · have h1 := Elem.runs.all_at (l := R.set k (f', x.2)) (i := j / 3) (x := (f', x.2)) (by rw [hk, List.getElem?_set_self hkl]) (j % 3) (show j % 3 < 3 by omega)
    rw [hsz] at h1
    rw [h1] at hj
    have h2 := Elem.runs.all_at (l := R) (i := j / 3) (x := x) (by rw [hk]; exact hx) (j % 3) (show j % 3 < 3 by omega)
    rw [hsz] at h2
    have hr : j % 3 = 0 ∨ j % 3 = 1 ∨ j % 3 = 2 := by omega
    rcases hr with hr | hr | hr
    · have hj0 : j = k * 3 := by omega
      rw [hr] at hj h2
      have hc := h j _ h2
      rw [hj0] at hc ⊢
      rw [World.cell?_setCell_same w _ _ hc]
      exact hj
    · rw [World.cell?_setCell_other w _ _ _ (by intro e; injection e with _ e _; omega)]
      refine h j u ?_
      rw [h2]
      rw [hr] at hj ⊢
      exact hj
    · rw [World.cell?_setCell_other w _ _ _ (by intro e; injection e with _ e _; omega)]
      refine h j u ?_
      rw [h2]
      rw [hr] at hj ⊢
      exact hj
  · obtain ⟨y, hy⟩ : ∃ y, R[j / 3]? = some y := ⟨R[j / 3]'hi, List.getElem?_eq_getElem _⟩
    have h1 := Elem.runs.all_at (l := R.set k (f', x.2)) (i := j / 3) (x := y) (by rw [List.getElem?_set_ne (fun e => hk e.symm)]; exact hy) (j % 3) (show j % 3 < 3 by omega)
    have h2 := Elem.runs.all_at (l := R) (i := j / 3) (x := y) hy (j % 3) (show j % 3 < 3 by omega)
    rw [hsz] at h1 h2
    rw [World.cell?_setCell_other w _ _ _ (by intro e; injection e with _ e _; omega)]
    refine h j u ?_
    rw [h2, ← h1]; exact hj
def Laying (w : World) (nn : Nat) (L : List Nat) (v at_ i : Value) (wr : World) : Prop :=
  ∃ j : Nat, j ≤ nn ∧ i = .int .i64 (j : Int) ∧ at_ = .int .u64 ((frN L j : Nat) : Int) ∧ Vec Elem.runs wr v (rows L j) ∧ (∀ b, In v b → w.heap.size ≤ b) ∧ Below w.heap.size w wr
def Turning (w1 : World) (n : Nat) (R : List Rn) (v i : Value) (wr : World) : Prop :=
  ∃ I : Int, -1 ≤ I ∧ I < (n : Int) ∧ i = .int .i64 I ∧ Vec Elem.runs wr v (R.drop (I + 1).toNat).reverse ∧ (∀ b, In v b → w1.heap.size ≤ b) ∧ Below w1.heap.size w1 wr
set_option maxRecDepth 100000 in
set_option maxHeartbeats 4000000 in
theorem walk_small (w : World) (C : Ge w) {a : Option Addr} {nn cap : Nat} (L : List Nat) (hn : nn = L.length) (hb8 : ∀ j, j < nn → L.getD j 0 ≤ 255) (hq : ∀ w', Below w.heap.size w w' → ∀ j, j < nn → ∃ b off, a = some ⟨b, off, none⟩ ∧ w'.cell? ⟨b, off + j, none⟩ = some (.int .u8 ((L.getD j 0 : Nat) : Int))) (hlen : nn ≤ 60) (wh bk : Nat) (hwh : wh ≤ 255) (hbk : bk ≤ 255) :
    Calls Try.prog 8 #[.slice a nn cap, .int .u8 (wh : Int), .int .u8 (bk : Int)] w fun e w' => e = .returned (.bool true) ∧ Below w.heap.size w w' := by
  obtain ⟨i0, hi, hz0, hz1, hz2⟩ := info_parts infoRun
  have HNN := Lib.hid hn
  have Q0 := Lib.hid hq; have HB8 := Lib.hid hb8
  have t0 : decide ((60 : Int) < (nn : Int)) = false := decide_eq_false (by omega)
  clear hn hq hb8
  go_enter Try.func8, Try.ntmps8
  go_wp2_with fail
  refine (alive_any _ C).mono ?_; rintro e w1 ⟨rfl, hb⟩
  have B1 := Lib.hid hb
  clear hb
  go_wp2
  clear t0
  go_loopw [7, 9, 23] (fun v at_ i wr => Laying w nn L v at_ i wr) (fun v at_ i _ => nn - (intOf i).toNat)
  case atStart => exact ⟨0, Nat.zero_le _, rfl, rfl, Vec.nil _, (by intro b hb; cases hb), B1.out⟩
  case round =>
    obtain ⟨j, hj, rfl, rfl, hv, hin, hb⟩ := hrel
    obtain ⟨a', cap', rfl, hvc1, hvc2⟩ := hv.slice'
    rw [rows_length] at hv hin hvc1
    rw [rows_length]
    have V := Lib.hid hv; have N := Lib.hid hin; have B := Lib.hid hb
    have sr := hb.size
    clear hv hin hb
    by_cases hjl : j < nn
    · obtain ⟨b2, off2, rfl, d0⟩ := Q0.out wr B.out j hjl
      have hs8 := HB8.out j hjl
      have hrow : rnAt L j = (frN L j, szN (L.getD j 0), ((ctN (L.getD j 0) : Nat) : Int)) := rfl
      have hend := row_end L (show j ≤ 60 by omega)
      rw [hrow] at hend
      have p1 := fun h1 h2 h3 => C.end_ (frN L j) (szN (L.getD j 0)) ((ctN (L.getD j 0) : Nat) : Int) h1 h2 h3
      rw [hend] at p1
      have hf := frN_le L j
      have hf2 := frN_le L (j + 1)
      obtain ⟨s, hs⟩ : ∃ s, L.getD j 0 = s := ⟨_, rfl⟩
      rw [hs] at d0 hs8 hrow p1
      obtain ⟨z, hz⟩ : ∃ z, szN s = z := ⟨_, rfl⟩
      obtain ⟨c, hc⟩ : ∃ c, ctN s = c := ⟨_, rfl⟩
      obtain ⟨z', hz'⟩ : ∃ z', s % 40 = z' := ⟨_, rfl⟩
      obtain ⟨c', hc'⟩ : ∃ c', s % 5 = c' := ⟨_, rfl⟩
      have hz2' : z' + 1 = z := by rw [← hz, ← hz']; rfl
      have hc2' : c' + 1 = c := by rw [← hc, ← hc']; rfl
      have m1 : Int.tmod (s : Int) 40 = (z' : Int) := (mod_of hz').1
      have m2 : (s : Int) % 40 = (z' : Int) := (mod_of hz').2
      have m3 : Int.tmod (s : Int) 5 = (c' : Int) := (mod_of hc').1
      have m4 : (s : Int) % 5 = (c' : Int) := (mod_of hc').2
      have m5 : (z' : Int) + 1 = (z : Int) := by omega
      have m6 : (c' : Int) + 1 = (c : Int) := by omega
      rw [hz, hc] at hrow p1
      obtain ⟨f, hff⟩ : ∃ f, frN L j = f := ⟨_, rfl⟩
      obtain ⟨f2, hff2⟩ : ∃ f, frN L (j + 1) = f := ⟨_, rfl⟩
      rw [hff] at hrow p1 hf
      rw [hff2] at p1 hf2
      rw [hff]
      have P1 := Lib.hid (p1 (by omega) (by omega) (by omega))
      unfold runV at P1
      have HF2 := Lib.hid hff2
      have HROW : Hid (rows L (j + 1) = rows L j ++ [(f, z, (c : Int))]) := Lib.hid (by rw [rows_succ, hrow])
      have HLEN : Hid ((rows L j).length = j) := Lib.hid (rows_length L j)
      have q2 : decide ((j : Int) < (nn : Int)) = true := decide_eq_true (by omega)
      have q3 : (0 : Int) ≤ (j : Int) := by omega
      have q4 : (j : Int) < (nn : Int) := by omega
      obtain ⟨b12, hb12⟩ : ∃ b, wr.heap.size = b := ⟨_, rfl⟩
      have K12 : Hid (Blk (wr.alloc (.cells #[.int .u64 (f : Int), .int .u64 (z : Int), .int .i64 (c : Int)] 38)) b12 38 (runC f z (c : Int))) := Lib.hid (by rw [← hb12]; exact Blk.new wr _ _)
      clear hs hz hc hz' hc' p1 hend hrow hff hff2 hz2' hc2'
      go_wp2_with fail
      refine (P1.out _ (B.out.alloc sr _)).mono ?_; rintro e w5 ⟨rfl, hb⟩
      have B5 := Lib.hid (below_then (B.out.alloc sr _) (Nat.le_trans sr (by simp)) hb)
      have V5 := Lib.hid ((V.out.alloc _).upd (updFalse_of hb) (fun _ _ => id))
      have K5 := (K12.out.grew hb)
      have s5 := B5.out.size
      have g0 : w5.cell? ⟨b12, 0, none⟩ = some (.int .u64 (f : Int)) := K5.cell 0
      have g1 : w5.cell? ⟨b12, 1, none⟩ = some (.int .u64 (z : Int)) := K5.cell 1
      have g2 : w5.cell? ⟨b12, 2, none⟩ = some (.int .i64 (c : Int)) := K5.cell 2
      clear hb K5 m1 m2 m3 m4 m5 m6 d0 hb12
      go_wp2_with (at_builtin; refine wpList_append_vec (E := Elem.runs) rfl (.tmp 39) (.tmp 41) 47 rfl 38 i0 (.agg #[.int .u64 0, .int .u64 0, .int .i64 0]) 24 Try.underlying47 hi hz0 hz1 hz2 rfl (.slice a' j cap') (.slice (some ⟨w5.heap.size, 0, none⟩) 1 1) (rows L j) [(f, z, (c : Int))] rfl rfl (V5.out.alloc _) (runs_oneAt _ _ (f, z, (c : Int)) _ rfl) ?_ ?_ ?_; (rw [HLEN.out]; simp only [maxLen, List.length_cons, List.length_nil]; omega); (rw [HLEN.out]; simp only [List.length_cons, List.length_nil]; omega); intro v2 w2 hv2 hu2 hin2; have V2 := Lib.hid hv2; have BZ := Lib.hid (vec_below (B5.out.alloc s5 _) (Nat.le_trans s5 (by simp)) N.out hu2); have N2 := Lib.hid hin2; clear hv2 hu2 hin2)
      go_roundw
      case rel =>
        refine ⟨j + 1, by omega, by go_num, by rw [HF2.out], by rw [HROW.out]; exact V2.out, fun b hb => ?_, BZ.out⟩
        rcases N2.out b hb with x | x
        · exact N.out b x
        · simp at x; omega
      case measure => simp [intOf]; omega
    · obtain rfl : j = nn := by omega
      have q2 : decide ((j : Int) < (j : Int)) = false := decide_eq_false (by omega)
      obtain ⟨R, hR⟩ : ∃ R, rows L j = R := ⟨_, rfl⟩
      have HR := Lib.hid hR
      have RL : Hid (R.length = j) := Lib.hid (by rw [← hR]; exact rows_length L j)
      have RB : Hid (∀ x ∈ R, RnB x) := Lib.hid (by
        intro x hx
        rw [← hR] at hx
        obtain ⟨i, hi, rfl⟩ := List.mem_map.1 hx
        have := row_bd L (show i ≤ 60 by have := List.mem_range.1 hi; omega)
        exact ⟨by show (rnAt L i).1 ≤ _; omega, by show (rnAt L i).2.1 ≤ _; omega, by show -9223372036854775808 ≤ (rnAt L i).2.2; omega, by show (rnAt L i).2.2 ≤ _; omega⟩)
      rw [hR] at V
      clear hR
      obtain ⟨wl, rfl⟩ : ∃ wl, wl = wr := ⟨_, rfl⟩
      go_wp2
      go_loopw [8, 13] (fun v i wr => Turning wl j R v i wr) (fun v i _ => (intOf i + 1).toNat)
      case atStart =>
        refine ⟨(j : Int) - 1, by omega, by omega, rfl, ?_, (by intro b hb; cases hb), Below.refl _ _⟩
        rw [show ((j : Int) - 1 + 1).toNat = R.length by have := RL.out; omega, List.drop_length]
        exact Vec.nil _
      case round =>
        obtain ⟨I, hI1, hI2, rfl, hv2, hin2, hb2⟩ := hrel
        obtain ⟨a2, cap2, rfl, hvd1, hvd2⟩ := hv2.slice'
        have VT := Lib.hid hv2; have NT := Lib.hid hin2; have BT := Lib.hid hb2
        have st := hb2.size
        have BW := Lib.hid (below_then B.out sr hb2)
        have SR := Lib.hid (V.out.seq.below (Nat.le_refl _) hb2)
        clear hv2 hin2 hb2
        by_cases hneg : I < 0
        · have hI : I = -1 := by omega
          subst hI
          have t1 : decide ((0 : Int) ≤ -1) = false := by decide
          rw [show ((-1 : Int) + 1).toNat = 0 from rfl, List.drop_zero] at VT
          have hm1 : meetN R = false := by rw [← HR.out]; exact rows_apart L hlen
          have HM1 := C.meet wr BW.out _ j cap' R SR.out hvc1 hvc2 (by omega) RB.out
          rw [hm1] at HM1
          have hrl : R.reverse.length = j := by rw [List.length_reverse, RL.out]
          rw [show ((-1 : Int) + 1).toNat = 0 from rfl, List.drop_zero, hrl] at hvd1
          rw [show ((-1 : Int) + 1).toNat = 0 from rfl, List.drop_zero, hrl]
          rw [show ((-1 : Int) + 1).toNat = 0 from rfl, List.drop_zero] at NT
          rw [hrl] at VT NT
          have HM2 := Lib.hid (fun w' (hw : Below wr.heap.size wr w') => C.meet w' (below_then BW.out BW.out.size hw) _ j cap2 R.reverse (VT.out.seq.below (Nat.le_refl _) hw) hvd1 hvd2 (by omega) (fun x hx => RB.out x (List.mem_reverse.1 hx)))
          rw [meetN_reverse, hm1] at HM2
          have H1 := Lib.hid HM1
          clear hm1 HM1 hrl
          go_wp2_with fail
          refine H1.out.mono ?_; rintro e w4 ⟨rfl, hb⟩
          have B4 := Lib.hid hb
          clear hb
          go_wp2_with fail
          refine (HM2.out _ B4.out).mono ?_; rintro e w5 ⟨rfl, hb⟩
          have BL := Lib.hid (below_then BT.out st (below_then B4.out B4.out.size hb))
          have B5 := Lib.hid (below_then B.out sr BL.out)
          have V5 := V.out.upd (updFalse_of BL.out) (fun _ _ => id)
          have s5 := B5.out.size
          clear hb
          by_cases hj2 : j < 2
          · have t2 : decide ((j : Int) < 2) = true := decide_eq_true (by omega)
            go_wp2
            go_ret
            exact ⟨rfl, B5.out⟩
          · have t2 : decide ((j : Int) < 2) = false := decide_eq_false (by omega)
            rcases V5 with ⟨e, _⟩ | ⟨g, off, cap3, e, hg, hn3, hm3, hc3, hsp3⟩
            · injection e with _ e _; omega
            injection e with e e' e''
            subst e e''
            clear e'
            rw [RL.out] at hn3
            have HC := Lib.hid hc3; have HSP := Lib.hid hsp3
            have hgw := N.out g rfl
            obtain ⟨d, hd⟩ : ∃ d, j - 1 = d := ⟨_, rfl⟩
            obtain ⟨q, hq⟩ : ∃ q, wh % d = q := ⟨_, rfl⟩
            obtain ⟨k, hk⟩ : ∃ k, q + 1 = k := ⟨_, rfl⟩
            have hqd : q < d := by rw [← hq]; exact Nat.mod_lt _ (by omega)
            have hkj : k < j := by omega
            have e1 : (j : Int) - 1 = (d : Int) := by omega
            have e2 : Int.tmod (wh : Int) (d : Int) = (q : Int) := (mod_of hq).1
            have e3 : (wh : Int) % (d : Int) = (q : Int) := (mod_of hq).2
            have e4 : (1 : Int) + (q : Int) = (k : Int) := by omega
            have e5 : (k : Int) - 1 = (q : Int) := by omega
            have e6 : ((d : Int) == 0) = false := by rw [beq_eq_false_iff_ne]; omega
            have e7 : ¬ d = 0 := by omega
            -- rows q and k
            have hfq := frN_le L q
            have hfk := frN_le L k
            have hw8 := wd_bounds (L.getD q 0)
            have hbq := row_bd L (show q ≤ 60 by omega)
            have hbk2 := row_bd L (show k ≤ 60 by omega)
            have hrq : R[q]? = some (rnAt L q) := by rw [← HR.out]; exact rows_get L (by omega)
            have hrk : R[k]? = some (rnAt L k) := by rw [← HR.out]; exact rows_get L (by omega)
            have hend := row_end L (show q ≤ 60 by omega)
            have hdiff : frN L k = frN L q + wdN (L.getD q 0) := by rw [← hk]; rfl
            obtain ⟨wd, hwd⟩ : ∃ x, wdN (L.getD q 0) = x := ⟨_, rfl⟩
            obtain ⟨r, hr⟩ : ∃ x, bk % wd = x := ⟨_, rfl⟩
            obtain ⟨b, hb⟩ : ∃ x, r + 1 = x := ⟨_, rfl⟩
            rw [hwd] at hdiff hw8
            have hrw : r < wd := by rw [← hr]; exact Nat.mod_lt _ (by omega)
            have hM1 := moved_all L (n := j) (k := q) (b := b) hlen (by omega) (by omega) (by rw [hwd]; omega)
            have hM2 := moved_two L (k := q) (b := b) (by omega) (by omega) (by rw [hwd]; omega)
            rw [hk] at hM1 hM2 hend
            have hmv : moved L k b = (frN L k - b, (rnAt L k).2) := rfl
            rw [hmv] at hM1 hM2
            have e8 : Int.tmod (bk : Int) (wd : Int) = (r : Int) := (mod_of hr).1
            have e9 : (bk : Int) % (wd : Int) = (r : Int) := (mod_of hr).2
            have e10 : (1 : Int) + (r : Int) = (b : Int) := by omega
            have e11 : ((wd : Int) == 0) = false := by rw [beq_eq_false_iff_ne]; omega
            have e12 : ¬ wd = 0 := by omega
            have hfqe : (rnAt L q).1 = frN L q := rfl
            have hfke : (rnAt L k).1 = frN L k := rfl
            obtain ⟨f', hf'⟩ : ∃ x, frN L k - b = x := ⟨_, rfl⟩
            rw [hf'] at hM1 hM2
            obtain ⟨⟨fq, zq, cq⟩, hxq⟩ : ∃ x, rnAt L q = x := ⟨_, rfl⟩
            obtain ⟨⟨fk, zk, ck⟩, hxk⟩ : ∃ x, rnAt L k = x := ⟨_, rfl⟩
            rw [hxq] at hrq hend hM2 hbq hfqe
            rw [hxk] at hrk hM1 hM2 hbk2 hfke
            simp only [] at hend hbq hbk2 hfqe hfke
            rw [← hfke] at hend hdiff hf' hfk
            rw [← hfqe] at hdiff hfq
            rw [HR.out] at hM1
            have e13 : (fk : Int) - (fq : Int) = (wd : Int) := by omega
            have e14 : (fk : Int) - (b : Int) = (f' : Int) := by omega
            have e15 : f' ≤ 12300 := by omega
            have PE := C.end_ fq zq cq (by omega) (by omega) (by omega)
            rw [hend] at PE
            unfold runV at PE
            have HPE := Lib.hid PE
            have atq : ∀ i u, (Elem.runs.put (fq, zq, cq))[i]? = some u → w5.cell? ⟨g, off + q * 3 + i, none⟩ = some u := fun i u hu => by
              have hil : i < 3 := by have := (List.getElem?_eq_some_iff.1 hu).1; rwa [Elem.len] at this
              rw [Nat.add_assoc]
              exact HC.out _ u ((Elem.runs.all_at hrq i hil).trans hu)
            have atk : ∀ i u, (Elem.runs.put (fk, zk, ck))[i]? = some u → w5.cell? ⟨g, off + k * 3 + i, none⟩ = some u := fun i u hu => by
              have hil : i < 3 := by have := (List.getElem?_eq_some_iff.1 hu).1; rwa [Elem.len] at this
              rw [Nat.add_assoc]
              exact HC.out _ u ((Elem.runs.all_at hrk i hil).trans hu)
            have u0 : w5.cell? ⟨g, off + q * 3, none⟩ = some (.int .u64 (fq : Int)) := atq 0 _ rfl
            have u1 : w5.cell? ⟨g, off + q * 3 + 1, none⟩ = some (.int .u64 (zq : Int)) := atq 1 _ rfl
            have u2 : w5.cell? ⟨g, off + q * 3 + 2, none⟩ = some (.int .i64 cq) := atq 2 _ rfl
            have v0 : w5.cell? ⟨g, off + k * 3, none⟩ = some (.int .u64 (fk : Int)) := atk 0 _ rfl
            have v1 : w5.cell? ⟨g, off + k * 3 + 1, none⟩ = some (.int .u64 (zk : Int)) := atk 1 _ rfl
            have v2 : w5.cell? ⟨g, off + k * 3 + 2, none⟩ = some (.int .i64 ck) := atk 2 _ rfl
            have vf : w5.frozen? ⟨g, off + k * 3, none⟩ = false := by
              refine (HSP.out (k * 3) ?_).2
              simp only [Elem.runs]; omega
            have HM1 := Lib.hid hM1; have HM2' := Lib.hid hM2; have HRK := Lib.hid hrk
            obtain ⟨x1, x2, x3, x4, x5⟩ := hbq
            obtain ⟨y1, y2, y3, y4, y5⟩ := hbk2
            have j0 : (0 : Int) ≤ (q : Int) := by omega
            have j1 : (q : Int) < (j : Int) := by omega
            have j2 : (0 : Int) ≤ (k : Int) := by omega
            have j3 : (k : Int) < (j : Int) := by omega
            clear hc3 hsp3 atq atk hrq hrk hend hdiff hM1 hM2 hmv hxq hxk hfqe hfke hd hq hk hr hb hwd hw8 hf' PE HM2 H1
            go_wp2_with fail
            obtain ⟨EE, WW, x0, hx0, hE, hS⟩ := classOf (fun w' => Below w5.heap.size w5 w') (w := w5) (Below.refl _ w5).drew
            have hne : Nonempty EE := ⟨x0⟩
            have c0 : ∀ x, (WW x).cell? ⟨g, off + q * 3, none⟩ = some (.int .u64 (fq : Int)) := fun x => ((hS x).cell (p := ⟨g, off + q * 3, none⟩) hg).trans u0
            have c1 : ∀ x, (WW x).cell? ⟨g, off + q * 3 + 1, none⟩ = some (.int .u64 (zq : Int)) := fun x => ((hS x).cell (p := ⟨g, off + q * 3 + 1, none⟩) hg).trans u1
            have c2 : ∀ x, (WW x).cell? ⟨g, off + q * 3 + 2, none⟩ = some (.int .i64 cq) := fun x => ((hS x).cell (p := ⟨g, off + q * 3 + 2, none⟩) hg).trans u2
            have HS := Lib.hid hS; have HEE := Lib.hid hE
            clear hS hE
            refine wp_region_quiet_of WW x0 hx0 (by kernel_rfl) (by kernel_rfl) ?_
            repeat (go_big_quiet_step (first
              | (go_at_call 21; refine (HPE.out _ (below_then B5.out s5 (HS.out _))).mono ?_; rintro e w6 ⟨rfl, hb⟩; exact ⟨rfl, HEE.out _ (below_then (HS.out _) (HS.out _).size hb)⟩)))
            refine wpQuiet_nil ?_
            rintro _ ⟨nq, rfl⟩
            clear c0 c1 c2 hx0
            obtain ⟨w9, hw9⟩ : ∃ w9, WW nq = w9 := ⟨_, rfl⟩
            have B9 := HS.out nq
            rw [hw9] at B9 ⊢
            have u0' : w9.cell? ⟨g, off + q * 3, none⟩ = some (.int .u64 (fq : Int)) := (B9.cell (p := ⟨g, off + q * 3, none⟩) hg).trans u0
            have u1' : w9.cell? ⟨g, off + q * 3 + 1, none⟩ = some (.int .u64 (zq : Int)) := (B9.cell (p := ⟨g, off + q * 3 + 1, none⟩) hg).trans u1
            have u2' : w9.cell? ⟨g, off + q * 3 + 2, none⟩ = some (.int .i64 cq) := (B9.cell (p := ⟨g, off + q * 3 + 2, none⟩) hg).trans u2
            have v0' : w9.cell? ⟨g, off + k * 3, none⟩ = some (.int .u64 (fk : Int)) := (B9.cell (p := ⟨g, off + k * 3, none⟩) hg).trans v0
            have v1' : w9.cell? ⟨g, off + k * 3 + 1, none⟩ = some (.int .u64 (zk : Int)) := (B9.cell (p := ⟨g, off + k * 3 + 1, none⟩) hg).trans v1
            have v2' : w9.cell? ⟨g, off + k * 3 + 2, none⟩ = some (.int .i64 ck) := (B9.cell (p := ⟨g, off + k * 3 + 2, none⟩) hg).trans v2
            have vf' : w9.frozen? ⟨g, off + k * 3, none⟩ = false := (B9.frozen (p := ⟨g, off + k * 3, none⟩) hg).trans vf
            have C9 := Lib.hid (fun j u h => (B9.cell (p := ⟨g, off + j, none⟩) hg).trans (HC.out j u h))
            have B9w := Lib.hid (below_then B5.out s5 B9)
            clear hw9 B9 u0 u1 u2 v0 v1 v2 vf
            go_wp2_with fail
            generalize hw10 : w9.setCell ⟨g, off + k * 3, none⟩ (.int .u64 (f' : Int)) = w10
            have S10 : Seq Elem.runs w10 (.slice (some ⟨g, off, none⟩) j cap') (R.set k (f', zk, ck)) := by rw [← hw10]; exact runs_put RL.out.symm C9.out HRK.out
            have B10 := Lib.hid (show Below w.heap.size w w10 by rw [← hw10]; exact B9w.out.setCell (p := ⟨g, off + k * 3, none⟩) hgw _)
            have hqk : q ≠ k := by omega
            have d0 : w10.cell? ⟨g, off + k * 3, none⟩ = some (.int .u64 (f' : Int)) := by rw [← hw10]; exact World.cell?_setCell_same w9 _ _ v0'
            have d1 : w10.cell? ⟨g, off + k * 3 + 1, none⟩ = some (.int .u64 (zk : Int)) := by rw [← hw10, World.cell?_setCell_other w9 _ _ _ (by intro e; injection e with _ e _; omega)]; exact v1'
            have d2 : w10.cell? ⟨g, off + k * 3 + 2, none⟩ = some (.int .i64 ck) := by rw [← hw10, World.cell?_setCell_other w9 _ _ _ (by intro e; injection e with _ e _; omega)]; exact v2'
            have d3 : w10.cell? ⟨g, off + q * 3, none⟩ = some (.int .u64 (fq : Int)) := by rw [← hw10, World.cell?_setCell_other w9 _ _ _ (by intro e; injection e with _ e _; omega)]; exact u0'
            have d4 : w10.cell? ⟨g, off + q * 3 + 1, none⟩ = some (.int .u64 (zq : Int)) := by rw [← hw10, World.cell?_setCell_other w9 _ _ _ (by intro e; injection e with _ e _; omega)]; exact u1'
            have d5 : w10.cell? ⟨g, off + q * 3 + 2, none⟩ = some (.int .i64 cq) := by rw [← hw10, World.cell?_setCell_other w9 _ _ _ (by intro e; injection e with _ e _; omega)]; exact u2'
            have hg10 : g < w10.heap.size := World.block_lt_of_cell? w10 _ d0
            have HSTAY := Lib.hid (fun w' (hb : Below w10.heap.size w10 w') => And.intro ((hb.cell (p := ⟨g, off + k * 3, none⟩) hg10).trans d0) (And.intro ((hb.cell (p := ⟨g, off + k * 3 + 1, none⟩) hg10).trans d1) (And.intro ((hb.cell (p := ⟨g, off + k * 3 + 2, none⟩) hg10).trans d2) (And.intro ((hb.cell (p := ⟨g, off + q * 3, none⟩) hg10).trans d3) (And.intro ((hb.cell (p := ⟨g, off + q * 3 + 1, none⟩) hg10).trans d4) ((hb.cell (p := ⟨g, off + q * 3 + 2, none⟩) hg10).trans d5))))))
            have RB2 : ∀ x ∈ R.set k (f', zk, ck), RnB x := fun x hx => by
              rcases List.mem_or_eq_of_mem_set hx with h | rfl
              · exact RB.out x h
              · exact rnB (by omega) (by omega) (by omega) (by omega)
            have HMA := Lib.hid (fun w' (hw : Below w10.heap.size w10 w') => C.meet w' (below_then B10.out B10.out.size hw) (some ⟨g, off, none⟩) j cap' (R.set k (f', zk, ck)) (S10.below (Nat.le_refl _) hw) hvc1 hvc2 (by omega) RB2)
            have hm1 : meetN (R.set k (f', zk, ck)) = true := HM1.out
            rw [hm1] at HMA
            have HMB := Lib.hid (fun w' (hw : Below w10.heap.size w10 w') (a : Option Addr) (hsq : Seq Elem.runs w' (.slice a 2 2) [(f', zk, ck), (fq, zq, cq)]) => C.meet w' (below_then B10.out B10.out.size hw) a 2 2 _ hsq (by decide) (by decide) (by decide) (fun x hx => by
              rcases List.mem_cons.1 hx with rfl | hx
              · exact rnB (by omega) (by omega) (by omega) (by omega)
              · rw [List.mem_singleton.1 hx]; exact rnB (by omega) (by omega) (by omega) (by omega)))
            have hm2 : meetN [(f', zk, ck), (fq, zq, cq)] = true := HM2'.out
            rw [hm2] at HMB
            have ST := Lib.hid (Below.refl w10.heap.size w10)
            have hwq : IntKind.i64.wrap (q : Int) = (q : Int) := IntWalk.i64_in _ ⟨by omega, by omega⟩
            have hwk : IntKind.i64.wrap ((k : Int) - 1) = (q : Int) := by rw [e5]; exact hwq
            clear hm1 hm2 RB2 S10 hw10 u0' u1' u2' v0' v1' v2' vf'
            go_region_held3 (fun w' => w'.cell? ⟨g, off + k * 3, none⟩ = some (.int .u64 (f' : Int)) ∧ w'.cell? ⟨g, off + k * 3 + 1, none⟩ = some (.int .u64 (zk : Int)) ∧ w'.cell? ⟨g, off + k * 3 + 2, none⟩ = some (.int .i64 ck) ∧ w'.cell? ⟨g, off + q * 3, none⟩ = some (.int .u64 (fq : Int)) ∧ w'.cell? ⟨g, off + q * 3 + 1, none⟩ = some (.int .u64 (zq : Int)) ∧ w'.cell? ⟨g, off + q * 3 + 2, none⟩ = some (.int .i64 cq)) (first | go_keep | exact ⟨d0, d1, d2, d3, d4, d5⟩)
              (first
                | (go_at_call_of 25 cap'; refine (HMA.out _ (by first | exact ST.out | exact ST.out.drew)).mono ?_; rintro e w11 ⟨rfl, hb⟩; have ST : Hid (Below w10.heap.size w10 w11) := Lib.hid (by first | exact below_then ST.out ST.out.size hb | exact below_then ST.out.drew ST.out.size hb); obtain ⟨d0, d1, d2, d3, d4, d5⟩ := HSTAY.out _ ST.out; clear hb)
                | (go_at_call 25; refine (HMB.out _ (ST.out.alloc ST.out.size _) _ (runs_twoAt _ _ (f', zk, ck) (fq, zq, cq) _ rfl)).mono ?_; rintro e w12 ⟨rfl, hb⟩; have ST : Hid (Below w10.heap.size w10 w12) := Lib.hid (below_then (ST.out.alloc ST.out.size _) (Nat.le_trans ST.out.size (by simp)) hb); obtain ⟨d0, d1, d2, d3, d4, d5⟩ := HSTAY.out _ ST.out; clear hb))
            go_wp2
            go_ret
            exact ⟨rfl, below_then B10.out B10.out.size ST.out⟩
        · obtain ⟨k, rfl⟩ := Int.eq_ofNat_of_zero_le (show 0 ≤ I by omega)
          have hkj : k < j := by omega
          have hk1 : ((k : Int) + 1).toNat = k + 1 := by omega
          rw [hk1] at VT NT hvd1
          rw [hk1]
          obtain ⟨⟨xf, xs, xn⟩, hx⟩ : ∃ x, R[k]? = some x := ⟨R[k]'(by rw [RL.out]; exact hkj), List.getElem?_eq_getElem _⟩
          obtain ⟨xb1, xb2, xb3, xb4⟩ : xf ≤ 18446744073709551615 ∧ xs ≤ 18446744073709551615 ∧ -9223372036854775808 ≤ xn ∧ xn ≤ 9223372036854775807 := RB.out _ (List.mem_of_getElem? hx)
          obtain ⟨b3, off3, rfl, hcell⟩ := SR.out.elem hx
          have d0 := hcell 0 (.int .u64 (xf : Int)) rfl
          have d1 := hcell 1 (.int .u64 (xs : Int)) rfl
          have d2 := hcell 2 (.int .i64 xn) rfl
          simp only [Elem.runs, Nat.add_zero] at d0 d1 d2
          have t1 : decide ((0 : Int) ≤ (k : Int)) = true := decide_eq_true (by omega)
          have q3 : (0 : Int) ≤ (k : Int) := by omega
          have q4 : (k : Int) < (j : Int) := by omega
          have HD : Hid ((R.drop k).reverse = (R.drop (k + 1)).reverse ++ [(xf, xs, xn)]) := Lib.hid (by
            obtain ⟨hkl, e⟩ := List.getElem?_eq_some_iff.1 hx
            rw [List.drop_eq_getElem_cons hkl, e, List.reverse_cons])
          obtain ⟨dl, hdl⟩ : ∃ x, (R.drop (k + 1)).reverse.length = x := ⟨_, rfl⟩
          have hdl2 : dl ≤ 60 := by rw [← hdl, List.length_reverse, List.length_drop, RL.out]; omega
          have HDL := Lib.hid hdl
          rw [hdl] at VT NT hvd1
          rw [hdl]
          clear hcell hx hk1 hdl
          go_wp2_with (at_builtin; refine wpList_append_vec (E := Elem.runs) rfl (.tmp 51) (.tmp 56) 47 rfl 38 i0 (.agg #[.int .u64 0, .int .u64 0, .int .i64 0]) 24 Try.underlying47 hi hz0 hz1 hz2 rfl (.slice a2 dl cap2) (.slice (some ⟨wr.heap.size, 0, none⟩) 1 1) (R.drop (k + 1)).reverse [(xf, xs, xn)] rfl rfl (VT.out.alloc _) (runs_oneAt _ _ (xf, xs, xn) _ rfl) ?_ ?_ ?_; (rw [HDL.out]; simp only [maxLen, List.length_cons, List.length_nil]; omega); (rw [HDL.out]; simp only [List.length_cons, List.length_nil]; omega); intro v2 w2 hv2 hu2 hin2; have V2 := Lib.hid hv2; have BZ := Lib.hid (vec_below (BT.out.alloc st _) (Nat.le_trans st (by simp)) NT.out hu2); have N2 := Lib.hid hin2; clear hv2 hu2 hin2)
          go_roundw
          case rel =>
            refine ⟨(k : Int) - 1, by omega, by omega, rfl, ?_, fun b hb => ?_, BZ.out⟩
            · rw [show ((k : Int) - 1 + 1).toNat = k by omega, HD.out]; exact V2.out
            · rcases N2.out b hb with x | x
              · exact NT.out b x
              · simp at x; omega
          case measure => simp [intOf]
theorem walk_great (w : World) (C : Ge w) {a : Option Addr} {nn cap : Nat} (wh bk : Int) (hlen : 60 < nn) :
    Calls Try.prog 8 #[.slice a nn cap, .int .u8 wh, .int .u8 bk] w fun e w' => e = .returned (.bool true) ∧ Below w.heap.size w w' := by
  have t0 : decide ((60 : Int) < (nn : Int)) = true := decide_eq_true (by omega)
  clear hlen
  go_enter Try.func8, Try.ntmps8
  go_wp2_with fail
  refine (alive_any _ C).mono ?_; rintro e w1 ⟨rfl, hb⟩
  have B1 := Lib.hid hb
  clear hb
  go_wp2
  go_ret
  exact ⟨rfl, B1.out⟩
theorem walk_of (w : World) (C : Ge w) {a : Option Addr} {nn cap : Nat} (l : List Int) (h : NumsAt w .u8 (.slice a nn cap) l) (wh : Int) (h2 : (Lit.int .u8 wh).wf = true) (bk : Int) (h3 : (Lit.int .u8 bk).wf = true) :
    Calls Try.prog 8 #[.slice a nn cap, .int .u8 wh, .int .u8 bk] w fun e w' => e = .returned (.bool true) ∧ Below w.heap.size w w' := by
  have u2 := u8_of h2
  have u3 := u8_of h3
  obtain ⟨L, hn, hb, hq⟩ := bytesAt h
  rcases Nat.lt_or_ge 60 nn with hl | hl
  · exact walk_great w C wh bk hl
  · rw [u2.1, u3.1]
    exact walk_small w C L hn hb hq hl wh.toNat bk.toNat u2.2 u3.2
end Go.Proofs.Ytophomnbclgjfaa.geoApart
