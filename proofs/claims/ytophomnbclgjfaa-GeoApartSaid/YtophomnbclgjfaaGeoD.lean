/- The program's geo: Meet: contract. -/
import Derived.Test.YtophomnbclgjfaaGeoSort
namespace Go.Proofs.Ytophomnbclgjfaa
open Go.RowKit GeoMath
set_option linter.unusedVariables false

def Picking (w : World) (l : List Rn) (nn : Nat) (v i : Value) (wr : World) : Prop :=
  ∃ j : Nat, j ≤ nn ∧ i = .int .i64 (j : Int) ∧ Vec Elem.runs wr v ((l.take j).filter okR) ∧ (∀ b, In v b → w.heap.size ≤ b) ∧ Below w.heap.size w wr
def Hit (s : List Rn) (m : Nat) : Prop := (s.getD m rn0).1 < endN (s.getD (m - 1) rn0).1 (s.getD (m - 1) rn0).2.1 (s.getD (m - 1) rn0).2.2
def Looking (w2 : World) (s : List Rn) (q : Nat) (i : Value) (wr : World) : Prop :=
  ∃ k : Nat, 1 ≤ k ∧ k ≤ q + 1 ∧ i = .int .i64 (k : Int) ∧ (∀ m, 1 ≤ m → m < k → m < q → ¬ Hit s m) ∧ Below w2.heap.size w2 wr
theorem pick_yes {l : List Rn} {j : Nat} {x : Rn} (h : l[j]? = some x) (hx : okR x = true) : (l.take (j + 1)).filter okR = (l.take j).filter okR ++ [x] := by
  rw [List.take_add_one, List.filter_append, h]; simp [hx]
theorem pick_no {l : List Rn} {j : Nat} {x : Rn} (h : l[j]? = some x) (hx : okR x = false) : (l.take (j + 1)).filter okR = (l.take j).filter okR := by
  rw [List.take_add_one, List.filter_append, h]; simp [hx]
theorem pick_le (l : List Rn) (j : Nat) : ((l.take j).filter okR).length ≤ j := by
  have := List.length_filter_le okR (l.take j)
  rw [List.length_take] at this
  omega
set_option maxRecDepth 100000 in
set_option maxHeartbeats 4000000 in
theorem code_meet (w : World) (a : Option Addr) (nn cap : Nat) (l : List Rn) (hl : Seq Elem.runs w (.slice a nn cap) l) (hk : nn ≤ 300) (hb : ∀ x ∈ l, RnB x) :
    Calls Try.prog 25 #[.slice a nn cap] w fun e w' => e = .returned (.bool (meetN l)) ∧ Below w.heap.size w w' := by
  obtain ⟨i0, hi, hz0, hz1, hz2⟩ := info_parts infoRun
  have HNN := Lib.hid hl.len
  have HL := Lib.hid hl; have HB := Lib.hid hb
  obtain ⟨ans, hans⟩ : ∃ b, meetN l = b := ⟨_, rfl⟩
  rw [hans]
  have HANS := Lib.hid hans
  clear hl hb hans
  go_enter Try.func25, Try.ntmps25
  go_wp2
  go_loopw [3, 9] (fun v i wr => Picking w l nn v i wr) (fun v i _ => nn - (intOf i).toNat)
  case atStart => exact ⟨0, Nat.zero_le _, rfl, Vec.nil _, (by intro b hb; cases hb), Below.refl _ _⟩
  case round =>
    obtain ⟨j, hj, rfl, hv, hin, hb⟩ := hrel
    have hpl := pick_le l j
    obtain ⟨L, hL⟩ : ∃ L, (l.take j).filter okR = L := ⟨_, rfl⟩
    rw [hL] at hv hpl
    obtain ⟨a', cap', rfl, hvc1, hvc2⟩ := hv.slice'
    obtain ⟨q, hq⟩ : ∃ q, L.length = q := ⟨_, rfl⟩
    rw [hq] at hv hin hvc1 hpl
    rw [hq]
    have HQ := Lib.hid hq; have HLL := Lib.hid hL
    have V := Lib.hid hv; have N := Lib.hid hin; have B := Lib.hid hb
    have sr := hb.size
    clear hv hin hb hq hL
    by_cases hjl : j < nn
    · obtain ⟨⟨f, s, n⟩, hx⟩ : ∃ x, l[j]? = some x := ⟨l[j]'(by rw [← HNN.out]; exact hjl), List.getElem?_eq_getElem _⟩
      obtain ⟨b2, off2, rfl, hcell⟩ := (HL.out.below (Nat.le_refl _) B.out).elem hx
      have hxb := HB.out _ (List.mem_of_getElem? hx)
      obtain ⟨hf, hs, hn⟩ := hxb
      simp only [] at hf hs hn
      have HM := Lib.hid (fun w => code_may w f s n hf hs hn)
      unfold runV at HM
      obtain ⟨n1, n2⟩ := hn
      have HX := Lib.hid hx
      have d0 : wr.cell? ⟨b2, off2 + j * 3, none⟩ = some (.int .u64 (f : Int)) := hcell 0 _ rfl
      have d1 : wr.cell? ⟨b2, off2 + j * 3 + 1, none⟩ = some (.int .u64 (s : Int)) := hcell 1 _ rfl
      have d2 : wr.cell? ⟨b2, off2 + j * 3 + 2, none⟩ = some (.int .i64 n) := hcell 2 _ rfl
      have q2 : decide ((j : Int) < (nn : Int)) = true := decide_eq_true (by omega)
      have q3 : (0 : Int) ≤ (j : Int) := by omega
      have q4 : (j : Int) < (nn : Int) := by omega
      obtain ⟨b12, hb12⟩ : ∃ b, wr.heap.size = b := ⟨_, rfl⟩
      have K12 : Hid (Blk (wr.alloc (.cells #[.int .u64 (f : Int), .int .u64 (s : Int), .int .i64 n] 38)) b12 38 (runC f s n)) := Lib.hid (by rw [← hb12]; exact Blk.new wr _ _)
      clear hx hcell
      cases hm : mayN f s n with
      | false =>
        rw [hm] at HM
        have HP : Hid ((l.take (j + 1)).filter okR = L) := Lib.hid (by rw [pick_no HX.out (by unfold okR; rw [hm]; rfl), HLL.out])
        clear hm
        go_wp2_with fail
        refine (HM.out _).mono ?_; rintro e w5 ⟨rfl, hb⟩
        have B5 := Lib.hid (below_then (B.out.alloc sr _) (Nat.le_trans sr (by simp)) hb)
        have V5 := Lib.hid ((V.out.alloc _).upd (updFalse_of hb) (fun _ _ => id))
        clear hb d0 d1 d2 hb12
        go_wp2
        go_roundw
        case rel => exact ⟨j + 1, by omega, by go_num, by rw [HP.out]; exact V5.out, N.out, B5.out⟩
        case measure => simp [intOf]; omega
      | true =>
        rw [hm] at HM
        by_cases h0 : 0 < n
        · have HP : Hid ((l.take (j + 1)).filter okR = L ++ [(f, s, n)]) := Lib.hid (by rw [pick_yes HX.out (okR_iff.2 ⟨hm, h0⟩), HLL.out])
          have t0 : decide ((0 : Int) < n) = true := decide_eq_true h0
          clear hm h0
          go_wp2_with fail
          refine (HM.out _).mono ?_; rintro e w5 ⟨rfl, hb⟩
          have B5 := Lib.hid (below_then (B.out.alloc sr _) (Nat.le_trans sr (by simp)) hb)
          have V5 := Lib.hid ((V.out.alloc _).upd (updFalse_of hb) (fun _ _ => id))
          have K5 := (K12.out.grew hb)
          have s5 := B5.out.size
          have g0 : w5.cell? ⟨b12, 0, none⟩ = some (.int .u64 (f : Int)) := K5.cell 0
          have g1 : w5.cell? ⟨b12, 1, none⟩ = some (.int .u64 (s : Int)) := K5.cell 1
          have g2 : w5.cell? ⟨b12, 2, none⟩ = some (.int .i64 n) := K5.cell 2
          clear hb K5 d0 d1 d2 hb12
          go_wp2_with (at_builtin; refine wpList_append_vec (E := Elem.runs) rfl (.tmp 20) (.tmp 22) 47 rfl 38 i0 (.agg #[.int .u64 0, .int .u64 0, .int .i64 0]) 24 Try.underlying47 hi hz0 hz1 hz2 rfl (.slice a' q cap') (.slice (some ⟨w5.heap.size, 0, none⟩) 1 1) L [(f, s, n)] rfl rfl (V5.out.alloc _) (runs_oneAt _ _ (f, s, n) _ rfl) ?_ ?_ ?_; (rw [HQ.out]; simp only [maxLen, List.length_cons, List.length_nil]; omega); (rw [HQ.out]; simp only [List.length_cons, List.length_nil]; omega); intro v2 w2 hv2 hu2 hin2; have V2 := Lib.hid hv2; have BZ := Lib.hid (vec_below (B5.out.alloc s5 _) (Nat.le_trans s5 (by simp)) N.out hu2); have N2 := Lib.hid hin2; clear hv2 hu2 hin2)
          go_roundw
          case rel =>
            refine ⟨j + 1, by omega, by go_num, by rw [HP.out]; exact V2.out, fun b hb => ?_, BZ.out⟩
            rcases N2.out b hb with x | x
            · exact N.out b x
            · simp at x; omega
          case measure => simp [intOf]; omega
        · have HP : Hid ((l.take (j + 1)).filter okR = L) := Lib.hid (by rw [pick_no HX.out (by unfold okR; rw [hm]; simp [h0]), HLL.out])
          have t0 : decide ((0 : Int) < n) = false := decide_eq_false h0
          clear hm h0
          go_wp2_with fail
          refine (HM.out _).mono ?_; rintro e w5 ⟨rfl, hb⟩
          have B5 := Lib.hid (below_then (B.out.alloc sr _) (Nat.le_trans sr (by simp)) hb)
          have V5 := Lib.hid ((V.out.alloc _).upd (updFalse_of hb) (fun _ _ => id))
          have K5 := (K12.out.grew hb)
          have g0 : w5.cell? ⟨b12, 0, none⟩ = some (.int .u64 (f : Int)) := K5.cell 0
          have g1 : w5.cell? ⟨b12, 1, none⟩ = some (.int .u64 (s : Int)) := K5.cell 1
          have g2 : w5.cell? ⟨b12, 2, none⟩ = some (.int .i64 n) := K5.cell 2
          clear hb K5 d0 d1 d2 hb12
          go_wp2
          go_roundw
          case rel => exact ⟨j + 1, by omega, by go_num, by rw [HP.out]; exact V5.out, N.out, B5.out⟩
          case measure => simp [intOf]; omega
    · obtain rfl : j = nn := by omega
      have q2 : decide ((j : Int) < (j : Int)) = false := decide_eq_false (by omega)
      have hfil : l.filter okR = L := by rw [← HLL.out, HNN.out, List.take_length]
      have HSORT := Lib.hid (code_sort wr a' q cap' L V.out (by omega))
      obtain ⟨wl, rfl⟩ : ∃ wl, wl = wr := ⟨_, rfl⟩
      go_wp2_with fail
      refine HSORT.out.mono ?_; rintro e w2 ⟨rfl, l', hp, hr, hseq, hu⟩
      have B2 := Lib.hid (vec_below B.out sr N.out hu)
      have s2 := B2.out.size
      have hlen' : l'.length = q := by rw [hp.length_eq, HQ.out]
      have hmem : ∀ x ∈ l', okR x = true ∧ RnB x := by
        intro x hx
        have h1 := hp.mem_iff.1 hx
        rw [← hfil] at h1
        obtain ⟨h2, h3⟩ := List.mem_filter.1 h1
        exact ⟨h3, HB.out x h2⟩
      have hans' : meetN l' = ans := by rw [meetN_perm hp, ← hfil, meetN_filter]; exact HANS.out
      have HOK := Lib.hid hmem; have HR := Lib.hid hr; have S2 := Lib.hid hseq; have HA2 := Lib.hid hans'; have HLN := Lib.hid hlen'
      clear hp hr hseq hu hlen' hmem hans' hfil HSORT
      go_wp2
      go_loopw [6] (fun i wr => Looking w2 l' q i wr) (fun i _ => q + 1 - (intOf i).toNat)
      case atStart => exact ⟨1, Nat.le_refl _, by omega, rfl, fun m h1 h2 => by omega, Below.refl _ _⟩
      case round =>
        obtain ⟨k, hk1, hkq, rfl, hno, hb⟩ := hrel
        have NO := Lib.hid hno; have BL := Lib.hid hb
        have B3 := Lib.hid (below_then B2.out s2 hb)
        have s3 := B3.out.size
        clear hno hb
        by_cases hlt : k < q
        · obtain ⟨p, hp⟩ : ∃ p, k - 1 = p := ⟨_, rfl⟩
          have e5 : (k : Int) - 1 = (p : Int) := by omega
          have hkl : k < l'.length := by rw [HLN.out]; exact hlt
          have hpl' : p < l'.length := by rw [HLN.out]; omega
          obtain ⟨⟨f1, s1, n1⟩, hx1⟩ : ∃ x, l'[k]? = some x := ⟨l'[k]'hkl, List.getElem?_eq_getElem _⟩
          obtain ⟨⟨f2, s2', n2⟩, hx2⟩ : ∃ x, l'[p]? = some x := ⟨l'[p]'hpl', List.getElem?_eq_getElem _⟩
          obtain ⟨b1, off1, rfl, hc1⟩ := S2.out.elem hx1
          obtain ⟨b1', off1', e1, hc2⟩ := S2.out.elem hx2
          injection e1 with e1
          injection e1 with eb eo _
          subst eb eo
          obtain ⟨_, hx1b⟩ := HOK.out _ (List.mem_of_getElem? hx1)
          obtain ⟨_, hx2b⟩ := HOK.out _ (List.mem_of_getElem? hx2)
          obtain ⟨hf1, hs1, hn1⟩ := hx1b
          obtain ⟨hf2, hs2, hn2⟩ := hx2b
          simp only [] at hf1 hs1 hn1 hf2 hs2 hn2
          have HEND := Lib.hid (fun w => code_end w f2 s2' n2 hf2 hs2 hn2)
          obtain ⟨n11, n12⟩ := hn1
          obtain ⟨n21, n22⟩ := hn2
          unfold runV at HEND
          obtain ⟨E, hE⟩ : ∃ E, endN f2 s2' n2 = E := ⟨_, rfl⟩
          rw [hE] at HEND
          have hhit : Hit l' k ↔ f1 < E := by
            unfold Hit
            rw [hp, show l'.getD k rn0 = (f1, s1, n1) by rw [List.getD_eq_getElem?_getD, hx1]; rfl, show l'.getD p rn0 = (f2, s2', n2) by rw [List.getD_eq_getElem?_getD, hx2]; rfl, ← hE]
          have u0 : w2.cell? ⟨b1, off1 + k * 3, none⟩ = some (.int .u64 (f1 : Int)) := hc1 0 _ rfl
          have v0 : w2.cell? ⟨b1, off1 + p * 3, none⟩ = some (.int .u64 (f2 : Int)) := hc2 0 _ rfl
          have v1 : w2.cell? ⟨b1, off1 + p * 3 + 1, none⟩ = some (.int .u64 (s2' : Int)) := hc2 1 _ rfl
          have v2 : w2.cell? ⟨b1, off1 + p * 3 + 2, none⟩ = some (.int .i64 n2) := hc2 2 _ rfl
          have hb1 : b1 < w2.heap.size := World.block_lt_of_cell? w2 _ u0
          have j0 : (0 : Int) ≤ (p : Int) := by omega
          have j1 : (p : Int) < (q : Int) := by omega
          have j2 : (0 : Int) ≤ (k : Int) := by omega
          have j3 : (k : Int) < (q : Int) := by omega
          have q5 : decide ((k : Int) < (q : Int)) = true := decide_eq_true (by omega)
          have q5' : decide (k < q) = true := decide_eq_true hlt
          have HHIT := Lib.hid hhit
          clear hx1 hx2 hc1 hc2 hE hhit hp
          by_cases hh : f1 < E
          · have t1 : decide ((f1 : Int) < (E : Int)) = true := decide_eq_true (by omega)
            have t1' : decide (f1 < E) = true := decide_eq_true hh
            have YES := Lib.hid (HHIT.out.2 hh)
            clear hh
            go_wp2_with fail
            obtain ⟨EE, WW, x0, hx0, hE, hS⟩ := classOf (fun w' => Below w2.heap.size w2 w') (w := wr) BL.out.drew
            have hne : Nonempty EE := ⟨x0⟩
            have c0 : ∀ x, (WW x).cell? ⟨b1, off1 + k * 3, none⟩ = some (.int .u64 (f1 : Int)) := fun x => ((hS x).cell (p := ⟨b1, off1 + k * 3, none⟩) hb1).trans u0
            have c1 : ∀ x, (WW x).cell? ⟨b1, off1 + p * 3, none⟩ = some (.int .u64 (f2 : Int)) := fun x => ((hS x).cell (p := ⟨b1, off1 + p * 3, none⟩) hb1).trans v0
            have c2 : ∀ x, (WW x).cell? ⟨b1, off1 + p * 3 + 1, none⟩ = some (.int .u64 (s2' : Int)) := fun x => ((hS x).cell (p := ⟨b1, off1 + p * 3 + 1, none⟩) hb1).trans v1
            have c3 : ∀ x, (WW x).cell? ⟨b1, off1 + p * 3 + 2, none⟩ = some (.int .i64 n2) := fun x => ((hS x).cell (p := ⟨b1, off1 + p * 3 + 2, none⟩) hb1).trans v2
            have HS := Lib.hid hS; have HEE := Lib.hid hE
            clear hS hE
            refine wp_region_quiet_of WW x0 hx0 (by kernel_rfl) (by kernel_rfl) ?_
            repeat (go_big_quiet_step (first
              | (go_at_call 21; refine (HEND.out _).mono ?_; rintro e w6 ⟨rfl, hb⟩; exact ⟨rfl, HEE.out _ (below_then (HS.out _) (HS.out _).size hb)⟩)))
            refine wpQuiet_nil ?_
            rintro _ ⟨nq, rfl⟩
            clear c0 c1 c2 c3 hx0
            go_wp2
            go_ret
            exact ⟨ret_b (a := true) (by rw [← HA2.out]; exact (sorted_hit (fun x hx => (HOK.out x hx).1) HR.out hk1 (by rw [HLN.out]; exact hlt) YES.out).symm), below_then B2.out s2 (HS.out nq)⟩
          · have t1 : decide ((f1 : Int) < (E : Int)) = false := decide_eq_false (by omega)
            have t1' : decide (f1 < E) = false := decide_eq_false hh
            have NOT := Lib.hid (fun x => hh (HHIT.out.1 x))
            clear hh
            go_wp2_with fail
            obtain ⟨EE, WW, x0, hx0, hE, hS⟩ := classOf (fun w' => Below w2.heap.size w2 w') (w := wr) BL.out.drew
            have hne : Nonempty EE := ⟨x0⟩
            have c0 : ∀ x, (WW x).cell? ⟨b1, off1 + k * 3, none⟩ = some (.int .u64 (f1 : Int)) := fun x => ((hS x).cell (p := ⟨b1, off1 + k * 3, none⟩) hb1).trans u0
            have c1 : ∀ x, (WW x).cell? ⟨b1, off1 + p * 3, none⟩ = some (.int .u64 (f2 : Int)) := fun x => ((hS x).cell (p := ⟨b1, off1 + p * 3, none⟩) hb1).trans v0
            have c2 : ∀ x, (WW x).cell? ⟨b1, off1 + p * 3 + 1, none⟩ = some (.int .u64 (s2' : Int)) := fun x => ((hS x).cell (p := ⟨b1, off1 + p * 3 + 1, none⟩) hb1).trans v1
            have c3 : ∀ x, (WW x).cell? ⟨b1, off1 + p * 3 + 2, none⟩ = some (.int .i64 n2) := fun x => ((hS x).cell (p := ⟨b1, off1 + p * 3 + 2, none⟩) hb1).trans v2
            have HS := Lib.hid hS; have HEE := Lib.hid hE
            clear hS hE
            refine wp_region_quiet_of WW x0 hx0 (by kernel_rfl) (by kernel_rfl) ?_
            repeat (go_big_quiet_step (first
              | (go_at_call 21; refine (HEND.out _).mono ?_; rintro e w6 ⟨rfl, hb⟩; exact ⟨rfl, HEE.out _ (below_then (HS.out _) (HS.out _).size hb)⟩)))
            refine wpQuiet_nil ?_
            rintro _ ⟨nq, rfl⟩
            clear c0 c1 c2 c3 hx0
            go_wp2
            go_roundw
            case rel => exact ⟨k + 1, by omega, by omega, by go_num, fun m h1 h2 h3 => by
              rcases Nat.lt_or_ge m k with h | h
              · exact NO.out m h1 h h3
              · obtain rfl : m = k := by omega
                exact NOT.out, HS.out nq⟩
            case measure => simp [intOf]; omega
        · have q5 : decide ((k : Int) < (q : Int)) = false := decide_eq_false (by omega)
          have q5' : decide (k < q) = false := decide_eq_false hlt
          have HLT := Lib.hid hlt
          clear hlt
          go_wp2
          go_ret
          exact ⟨ret_b (a := false) (by rw [← HA2.out]; exact (sorted_none (fun x hx => (HOK.out x hx).1) HR.out (fun m h1 h2 => by rw [HLN.out] at h2; exact NO.out m h1 (by have := HLT.out; omega) h2)).symm), B3.out⟩
end Go.Proofs.Ytophomnbclgjfaa
