/- The document's own arena (allotmentref04): Reserve, where it seeks: contract. -/
import Derived.Test.YtnkahcfkbpbhiaaRefA4
namespace Go.Proofs.Ytnkahcfkbpbhiaa
open Go.RowKit ArenaMath
set_option linter.unusedVariables false

theorem infoR45 : (Try.prog.info? 67).map (fun i => (i.zero, i.size, i.bytes)) = some (some (.agg #[.int .i64 0, .int .i64 0]), 2, 16) := by kernel_rfl
theorem pair_at (w : World) (t : TypeId) (a n g : Nat) (hg : g = w.heap.size) : Seq Elem.pairs (w.alloc (.cells #[.int .i64 (a : Int), .int .i64 (n : Int)] t)) (.slice (some ⟨g, 0, none⟩) 1 1) [(a, n)] := by
  subst hg; exact Seq.new (E := Elem.pairs) w t [(a, n)] 1
theorem filter_step {l : List (Nat × Nat)} {j : Nat} {x : Nat × Nat} (f : Nat × Nat → Bool) (h : l[j]? = some x) : (l.take (j + 1)).filter f = (l.take j).filter f ++ (if f x = true then [x] else []) := by
  rw [List.take_add_one, h, List.filter_append]
  simp only [Option.toList_some, List.filter_cons, List.filter_nil]
def Searching (w1 : World) (h : Nat) (s1 : St) (lv tv : Value) (S : Nat) (l : List (Nat × Nat)) (n : Nat) (i : Value) (wr : World) : Prop :=
  ∃ a : Nat, a ≤ S ∧ i = .int .i64 (a : Int) ∧ (∀ b, b < a → ¬ (clear l b n ∧ b + n ≤ S)) ∧ RHeld w1 h s1 lv tv wr
def Sifting (w5 : World) (pre l : List (Nat × Nat)) (f : Nat × Nat → Bool) (v i : Value) (wr : World) : Prop :=
  ∃ j : Nat, j ≤ l.length ∧ i = .int .i64 (j : Int) ∧ Vec Elem.pairs wr v (pre ++ (l.take j).filter f) ∧ (∀ b, In v b → w5.heap.size ≤ b) ∧ Below w5.heap.size w5 wr
section
variable {w w' : World} {h : Nat} {s : St} {lv tv : Value}
set_option maxRecDepth 100000 in
set_option maxHeartbeats 4000000 in
theorem ref_reserve_nil (r : RefIs w h s lv tv) (hg : ArenaMath.Good s) (n : Nat) (h1 : 1 ≤ n) (h2 : n ≤ s.S) (hr : s.r ≤ 1000000000000) (hd : s.T.headD false = false) (ho : total s.l + n ≤ s.lim) (A' E' : Int) (s' : St) (hres : reserve s (n : Int) = (A', E', s')) (hT : s.T = []) :
    Calls Try.prog 17 #[.pointer (some ⟨h, 0, none⟩), .int .i64 (n : Int)] w fun e w' => e = .returned (.tuple #[.int .i64 A', .int .i64 E']) ∧ RefTo w h lv tv s' w' := by
  obtain ⟨i0, hi, hz0, hz1, hz2⟩ := info_parts infoR45
  have hhd := Lib.hid hd
  have c0 := r.c0
  have c4 := r.c4
  have hS := hg.S2
  have hlim := hg.lim
  have hsum := hg.sum
  have hTl := hg.told
  have hll : s.l.length ≤ 64 := by have := length_le_total hg.ok; omega
  have t0 : decide ((n : Int) < 1) = false := decide_eq_false (by omega)
  have t1 : decide (s.S < n) = false := decide_eq_false (by omega)
  clear hd
  · obtain ⟨ta, tcap, rfl, _, _⟩ := r.told.shape
    rw [hT] at c4
    simp only [List.length_nil] at c4
    have R1 : Hid (RefIs w h { s with T := s.T.drop 1 } lv (.slice ta s.T.length tcap)) := Lib.hid (by
      have : ({ s with T := s.T.drop 1 } : St) = s := by rw [hT]; cases s; simp_all
      rw [this]; exact r)
    have U1 : Hid (Upd (fun k => k = h) w w) := Lib.hid (Upd.refl _ _)
    have hin1 : Hid (∀ k, In (.slice ta s.T.length tcap) k → In (.slice ta s.T.length tcap) k ∨ w.heap.size ≤ k) := Lib.hid fun k hk => .inl hk
    obtain ⟨s1, hs1⟩ : ∃ s1 : St, s1 = { s with T := s.T.drop 1 } := ⟨_, rfl⟩
    rw [← hs1] at R1
    have e1 : s1.S = s.S ∧ s1.lim = s.lim ∧ s1.l = s.l ∧ s1.r = s.r := by rw [hs1]; exact ⟨rfl, rfl, rfl, rfl⟩
    obtain ⟨tv1, htv1⟩ : ∃ tv1, Value.slice ta s.T.length tcap = tv1 := ⟨_, rfl⟩
    rw [htv1] at R1 hin1 ⊢
    have HT := Lib.hid hT
    have HS1 := Lib.hid hs1
    clear hT hs1 htv1
    have HR0 := Lib.hid hr
    obtain ⟨eS, eL, el, er⟩ := e1
    have hgood1 : Hid (ArenaMath.Good s1) := Lib.hid (by rw [HS1.out]; exact ⟨hg.S1, hg.S2, hg.lim, hg.ok, hg.sum, by have := hg.told; simp; omega⟩)
    have OKs := Lib.hid hg.ok
    have HRES := Lib.hid hres
    have hlv := R1.out.list
    obtain ⟨la, lcap, rfl, hlc, hlm⟩ := hlv.shape
    obtain ⟨l, hl⟩ : ∃ l, s.l = l := ⟨_, rfl⟩
    obtain ⟨S, hSS⟩ : ∃ S, s.S = S := ⟨_, rfl⟩
    obtain ⟨ln, hln⟩ : ∃ ln, l.length = ln := ⟨_, rfl⟩
    rw [el, hl] at hlv hlc
    rw [hln] at hlv hlc
    rw [el, hl, hln] at R1 ⊢
    have LN := Lib.hid hln
    have LV1 := Lib.hid hlv.seq
    have HL := Lib.hid hl; have HSS := Lib.hid hSS
    have OK : Hid (Ok S l) := Lib.hid (by rw [← hl, ← hSS]; exact OKs.out)
    have hlb : ln ≤ 64 := by rw [← hln, ← hl]; exact hll
    have hsum2 : total l ≤ S := by rw [← hl, ← hSS]; omega
    rw [hSS] at c0 hS hlim t1 h2 eS
    rw [hl] at ho el
    clear r hg hres hlv hll hsum hl hSS hln
    go_enter Try.func17, Try.ntmps17
    go_wp2
    go_loopw [7] (fun i wr => Searching w h s1 (.slice la ln lcap) tv1 S l n i wr) (fun i _ => S - (intOf i).toNat)
    case atStart => exact ⟨0, Nat.zero_le _, rfl, fun b hb => by omega, R1.out, Below.refl _ _⟩
    case round =>
      obtain ⟨a, ha, rfl, hno, hst⟩ := hrel
      have ST : Hid (RHeld w h s1 (.slice la ln lcap) tv1 wr) := Lib.hid hst
      have NO := Lib.hid hno
      have d0 := hst.1.c0
      have d1 := hst.1.c1
      rw [eS] at d0
      rw [eL] at d1
      clear hst hno
      by_cases haS : a < S
      · have p1 : decide (a < S) = true := decide_eq_true haS
        have p2 : decide ((a : Int) < (S : Int)) = true := decide_eq_true (by omega)
        have hrg := fun (w' : World) (k : RHeld w h s1 (.slice la ln lcap) tv1 w') => rheld_given k (by rw [el]; exact ⟨by omega, by rw [LN.out]; omega⟩)
        rw [el] at hrg
        have HG := Lib.hid hrg
        obtain ⟨tl, htl⟩ : ∃ tl, total l = tl := ⟨_, rfl⟩
        rw [htl] at HG ho hsum2
        have p3 : decide (((tl : Nat) : Int) + (n : Int) ≤ (s.lim : Int)) = true := decide_eq_true (by omega)
        have hwr : IntKind.i64.wrap ((tl : Int) + (n : Int)) = (tl : Int) + (n : Int) := IntWalk.i64_in _ ⟨by omega, by omega⟩
        have HTL := Lib.hid htl
        clear hrg htl
        go_wp2
        go_region_held3 (fun w' => w'.cell? ⟨h, 0, none⟩ = some (.int .i64 (S : Int)) ∧ w'.cell? ⟨h, 1, none⟩ = some (.int .i64 (s.lim : Int))) (first | go_keep | exact ⟨d0, d1⟩)
          (first
            | (go_at_call 21; (first | (with_reducible refine (HG.out _ ST.out.drew).mono ?_) | (with_reducible refine (HG.out _ ST.out).mono ?_)); rintro e w3 ⟨rfl, hst⟩; have d0 := hst.1.c0; have d1 := hst.1.c1; rw [eS] at d0; rw [eL] at d1; have ST := Lib.hid hst; clear hst))
        -- x, and is it free?
        obtain ⟨c, hc⟩ : ∃ c, decide (clear s1.l a n ∧ a + n ≤ s1.S) = c := ⟨_, rfl⟩
        have hfree := ref_free (ST.out.1.alloc (.cells #[.int .i64 (a : Int), .int .i64 (n : Int)] 67)) hgood1.out a n (by omega) (by omega) c hc
        have HF := Lib.hid hfree
        rw [el, eS] at hc
        have HC := Lib.hid hc
        obtain ⟨bx, hbx⟩ : ∃ bx, w3.heap.size = bx := ⟨_, rfl⟩
        have hbk : Blk (w3.alloc (.cells #[.int .i64 (a : Int), .int .i64 (n : Int)] 67)) bx 67 #[.int .i64 (a : Int), .int .i64 (n : Int)] := by rw [← hbx]; exact Blk.new w3 _ _
        have BK := Lib.hid hbk
        have HBX := Lib.hid hbx
        clear hfree hc hbk p1 p2 p3 hwr d0 d1 HG
        go_wp2_with fail
        refine HF.out.mono ?_; rintro e w5 ⟨rfl, hb5⟩
        have BX5 : Hid (Blk w5 bx 67 #[.int .i64 (a : Int), .int .i64 (n : Int)]) := Lib.hid ((hb5.block bx BK.out.lt).trans BK.out)
        have hs3 := ST.out.2.size
        have B5 : Hid (Below w.heap.size w w5) := Lib.hid ((ST.out.2.alloc hs3 _).trans (hb5.mono (Nat.le_trans hs3 (by simp))))
        have R5 : Hid (RefIs w5 h s1 (.slice la ln lcap) tv1) := Lib.hid ((ST.out.1.alloc _).grew hb5)
        clear hb5 hs3 HF
        cases c with
        | false =>
          clear hbx
          go_wp2
          go_roundw
          case rel => exact ⟨a + 1, by omega, by go_num, (fun b hb => by
            rcases Nat.lt_or_ge b a with h | h
            · exact NO.out b h
            · obtain rfl : b = a := by omega
              exact of_decide_eq_false HC.out), R5.out, B5.out⟩
          case measure => simp [intOf]; omega
        | true =>
          have hcc := of_decide_eq_true HC.out
          have hspot : spot S l n = some a := spot_of h1 hcc.2 hcc.1 (fun b hb hc => NO.out b hb ⟨hc, by omega⟩)
          have HSP := Lib.hid hspot
          have LVB : Hid (∀ wr, Below w5.heap.size w5 wr → Seq Elem.pairs wr (.slice la ln lcap) l) := Lib.hid fun wr hb => (LV1.out.below (Nat.le_refl _) B5.out).below (Nat.le_refl _) hb
          have c35 := R5.out.c3
          clear hcc hspot hbx
          go_wp2
          go_loopw [9, 79] (fun v i wr => Sifting w5 [] l (fun x => decide (x.1 < a)) v i wr) (fun v i _ => ln - (intOf i).toNat)
          case atStart => exact ⟨0, Nat.zero_le _, rfl, Vec.nil _, (by intro b hb; cases hb), Below.refl _ _⟩
          case round =>
            obtain ⟨j, hj, rfl, hv, hin, hb⟩ := hrel
            obtain ⟨a', n', cap', rfl⟩ := hv.is
            have V := Lib.hid hv; have N := Lib.hid hin; have B := Lib.hid hb
            have sr := hb.size
            have LB := LVB.out _ hb
            clear hv hin hb
            by_cases hjl : j < ln
            · obtain ⟨⟨y1, y2⟩, hy⟩ : ∃ x, l[j]? = some x := ⟨l[j]'(by rw [LN.out]; exact hjl), List.getElem?_eq_getElem _⟩
              obtain ⟨b2, off2, rfl, hcell⟩ := LB.elem hy
              have d0 := hcell 0 (.int .i64 (y1 : Int)) rfl
              have d1 := hcell 1 (.int .i64 (y2 : Int)) rfl
              simp only [Elem.pairs, Nat.add_zero] at d0 d1
              have hym := OK.out.2 (y1, y2) (List.mem_of_getElem? hy)
              simp only at hym
              have hy1 : y1 ≤ 64 := by omega
              have hy2 : y2 ≤ 64 := by omega
              have hlen : ((l.take j).filter (fun x => decide (x.1 < a))).length ≤ 64 := Nat.le_trans (List.length_filter_le _ _) (by rw [List.length_take, LN.out]; omega)
              have hst := filter_step (fun x => decide (x.1 < a)) hy
              clear hcell hym hy
              by_cases hlt : y1 < a
              · have p1 : decide (y1 < a) = true := decide_eq_true hlt
                rw [if_pos (by simpa using hlt)] at hst
                have HT := Lib.hid hst
                have hvl : (((l.take j).filter (fun x => decide (x.1 < a)))).length ≤ 130 := by omega
                clear hst hlt
                go_wp2_with (at_builtin; refine wpList_append_vec (E := Elem.pairs) rfl (.tmp 87) (.tmp 89) 40 rfl 67 i0 (.agg #[.int .i64 0, .int .i64 0]) 16 Try.underlying40 hi hz0 hz1 hz2 rfl (.slice a' n' cap') (.slice (some ⟨wr.heap.size + 1, 0, none⟩) 1 1) ((l.take j).filter (fun x => decide (x.1 < a))) [(y1, y2)] rfl rfl ((V.out.alloc _).alloc _) (pair_at (wr.alloc (.cells #[.int .i64 (y1 : Int), .int .i64 (y2 : Int)] 67)) _ y1 y2 _ (by simp)) ?_ ?_ ?_; (simp only [maxLen, List.length_cons, List.length_nil]; omega); (simp only [List.length_cons, List.length_nil]; omega); intro v2 w6 hv2 hu2 hin2; have V2 := Lib.hid hv2; have B2 := Lib.hid (below_in ((B.out.alloc sr _).alloc (Nat.le_trans sr (by simp)) _) (Nat.le_trans sr (by simp; omega)) N.out hu2); have N2 := Lib.hid hin2; clear hv2 hu2 hin2)
                go_roundw
                case rel =>
                  refine ⟨j + 1, by rw [LN.out]; omega, by go_num, by rw [HT.out]; exact V2.out, fun b hb => ?_, B2.out⟩
                  rcases N2.out b hb with x | x
                  · exact N.out b x
                  · simp at x; omega
                case measure => simp [intOf]; omega
              · have p1 : decide (y1 < a) = false := decide_eq_false hlt
                rw [if_neg (by simpa using hlt), List.append_nil] at hst
                have HT := Lib.hid hst
                clear hst hlt
                go_wp2
                go_roundw
                case rel => exact ⟨j + 1, by rw [LN.out]; omega, by go_num, by rw [HT.out]; exact V.out.alloc _, N.out, B.out.alloc sr _⟩
                case measure => simp [intOf]; omega
            · obtain rfl : ln = j := by rw [LN.out] at hj; omega
              have e0 : (l.take ln).filter (fun x => decide (x.1 < a)) = l.filter (fun x => decide (x.1 < a)) := by rw [← LN.out, List.take_length]
              have V' : Hid (Vec Elem.pairs wr (.slice a' n' cap') (l.filter (fun x => decide (x.1 < a)))) := Lib.hid (by have := V.out; rwa [List.nil_append, e0] at this)
              obtain ⟨L1, hL1⟩ : ∃ L1, l.filter (fun x => decide (x.1 < a)) = L1 := ⟨_, rfl⟩
              have hlen1 : L1.length ≤ 64 := by rw [← hL1]; exact Nat.le_trans (List.length_filter_le _ _) (by rw [LN.out]; omega)
              rw [hL1] at V'
              have HL1 := Lib.hid hL1
              have k0 : wr.cell? ⟨bx, 0, none⟩ = some (.int .i64 (a : Int)) := (Blk.cell (cs := #[.int .i64 (a : Int), .int .i64 (n : Int)]) ((B.out.block bx BX5.out.lt).trans BX5.out) 0)
              have k1 : wr.cell? ⟨bx, 1, none⟩ = some (.int .i64 (n : Int)) := (Blk.cell (cs := #[.int .i64 (a : Int), .int .i64 (n : Int)]) ((B.out.block bx BX5.out.lt).trans BX5.out) 1)
              have c3r : Hid (∀ w6, Below w5.heap.size w5 w6 → w6.cell? ⟨h, 3, none⟩ = some (.slice la ln lcap) ∧ w6.frozen? ⟨h, 3, none⟩ = false) := Lib.hid fun w6 hb => by
                have r6 := R5.out.grew hb
                exact ⟨r6.c3, r6.head.frozen 3⟩
              clear e0 hL1 V
              go_wp2_with (at_builtin; refine wpList_append_vec (E := Elem.pairs) rfl (.tmp 92) (.tmp 94) 40 rfl 67 i0 (.agg #[.int .i64 0, .int .i64 0]) 16 Try.underlying40 hi hz0 hz1 hz2 rfl (.slice a' n' cap') (.slice (some ⟨wr.heap.size, 0, none⟩) 1 1) L1 [(a, n)] rfl rfl (V'.out.alloc _) (pair_at wr _ a n _ rfl) ?_ ?_ ?_; (simp only [maxLen, List.length_cons, List.length_nil]; omega); (simp only [List.length_cons, List.length_nil]; omega); intro v2 w7 hv2 hu2 hin2; obtain ⟨a3, n3, cap3, rfl⟩ := hv2.is; have V3 := Lib.hid hv2; have B3 := Lib.hid (below_in (B.out.alloc sr _) (Nat.le_trans sr (by simp)) N.out hu2); have M3 : Hid (∀ b, In (.slice a3 n3 cap3) b → w5.heap.size ≤ b) := Lib.hid (fun b hb => by rcases hin2 b hb with x | x; exact N.out b x; (simp at x; omega)); clear hv2 hu2 hin2; have c36 := (c3r.out _ B3.out).1)
              clear k0 k1
              go_wp2
              go_loopw [9, 101] (fun v i wr => Sifting w5 (L1 ++ [(a, n)]) l (fun x => decide (a < x.1)) v i wr) (fun v i _ => ln - (intOf i).toNat)
              case atStart => exact ⟨0, Nat.zero_le _, rfl, by simpa using V3.out, M3.out, B3.out⟩
              case round =>
                obtain ⟨j, hj, rfl, hv, hin, hb⟩ := hrel
                obtain ⟨a', n', cap', rfl⟩ := hv.is
                have V := Lib.hid hv; have N := Lib.hid hin; have B := Lib.hid hb
                have sr := hb.size
                have LB := LVB.out _ hb
                clear hv hin hb
                by_cases hjl : j < ln
                · obtain ⟨⟨y1, y2⟩, hy⟩ : ∃ x, l[j]? = some x := ⟨l[j]'(by rw [LN.out]; exact hjl), List.getElem?_eq_getElem _⟩
                  obtain ⟨b2, off2, rfl, hcell⟩ := LB.elem hy
                  have d0 := hcell 0 (.int .i64 (y1 : Int)) rfl
                  have d1 := hcell 1 (.int .i64 (y2 : Int)) rfl
                  simp only [Elem.pairs, Nat.add_zero] at d0 d1
                  have hym := OK.out.2 (y1, y2) (List.mem_of_getElem? hy)
                  simp only at hym
                  have hy1 : y1 ≤ 64 := by omega
                  have hy2 : y2 ≤ 64 := by omega
                  have hlen : ((l.take j).filter (fun x => decide (a < x.1))).length ≤ 64 := Nat.le_trans (List.length_filter_le _ _) (by rw [List.length_take, LN.out]; omega)
                  have hst := filter_step (fun x => decide (a < x.1)) hy
                  clear hcell hym hy
                  by_cases hlt : a < y1
                  · have p1 : decide (a < y1) = true := decide_eq_true hlt
                    rw [if_pos (by simpa using hlt)] at hst
                    have HT := Lib.hid hst
                    have hvl : ((L1 ++ [(a, n)]) ++ ((l.take j).filter (fun x => decide (a < x.1)))).length ≤ 130 := by simp only [List.length_append, List.length_cons, List.length_nil]; omega
                    clear hst hlt
                    go_wp2_with (at_builtin; refine wpList_append_vec (E := Elem.pairs) rfl (.tmp 109) (.tmp 111) 40 rfl 67 i0 (.agg #[.int .i64 0, .int .i64 0]) 16 Try.underlying40 hi hz0 hz1 hz2 rfl (.slice a' n' cap') (.slice (some ⟨wr.heap.size + 1, 0, none⟩) 1 1) ((L1 ++ [(a, n)]) ++ (l.take j).filter (fun x => decide (a < x.1))) [(y1, y2)] rfl rfl ((V.out.alloc _).alloc _) (pair_at (wr.alloc (.cells #[.int .i64 (y1 : Int), .int .i64 (y2 : Int)] 67)) _ y1 y2 _ (by simp)) ?_ ?_ ?_; (simp only [maxLen, List.length_cons, List.length_nil]; omega); (simp only [List.length_cons, List.length_nil]; omega); intro v2 w6 hv2 hu2 hin2; have V2 := Lib.hid hv2; have B2 := Lib.hid (below_in ((B.out.alloc sr _).alloc (Nat.le_trans sr (by simp)) _) (Nat.le_trans sr (by simp; omega)) N.out hu2); have N2 := Lib.hid hin2; clear hv2 hu2 hin2)
                    go_roundw
                    case rel =>
                      refine ⟨j + 1, by rw [LN.out]; omega, by go_num, by rw [HT.out]; rw [← List.append_assoc]; exact V2.out, fun b hb => ?_, B2.out⟩
                      rcases N2.out b hb with x | x
                      · exact N.out b x
                      · simp at x; omega
                    case measure => simp [intOf]; omega
                  · have p1 : decide (a < y1) = false := decide_eq_false hlt
                    rw [if_neg (by simpa using hlt), List.append_nil] at hst
                    have HT := Lib.hid hst
                    clear hst hlt
                    go_wp2
                    go_roundw
                    case rel => exact ⟨j + 1, by rw [LN.out]; omega, by go_num, by rw [HT.out]; exact V.out.alloc _, N.out, B.out.alloc sr _⟩
                    case measure => simp [intOf]; omega
                · obtain rfl : ln = j := by rw [LN.out] at hj; omega
                  have e0 : (l.take ln).filter (fun x => decide (a < x.1)) = l.filter (fun x => decide (a < x.1)) := by rw [← LN.out, List.take_length]
                  have V' : Hid (Vec Elem.pairs wr (.slice a' n' cap') (put l a n)) := Lib.hid (by
                    have := V.out
                    rw [e0, ← HL1.out] at this
                    simpa [put] using this)
                  obtain ⟨c37, f37⟩ := c3r.out _ B.out
                  have hres2 := HRES.out
                  rw [reserve_some (s := s) h1 (by rw [HSS.out]; omega) hhd.out (by rw [HL.out, HTL.out]; omega) (by rw [HSS.out, HL.out]; exact HSP.out)] at hres2
                  obtain ⟨rfl, rfl, rfl⟩ : (a : Int) = A' ∧ (0 : Int) = E' ∧ s.give a n = s' := by injection hres2 with q1 q2; injection q2 with q2 q3; exact ⟨q1, q2, q3⟩
                  have hlt5 := R5.out.head.lt
                  have hw5 := B5.out.size
                  clear e0 hres2 V
                  go_wp2
                  go_ret2
                  have r6 := R5.out.grew B.out
                  have hu2 := upd_cell wr h 3 (.slice a' n' cap')
                  have hne : ∀ k, In (.slice a' n' cap') k → k ≠ h := fun k hk e => by have := N.out k hk; omega
                  have huw := U1.out.size
                  refine ⟨rfl, ⟨_, tv1, ⟨?_, ?_, ?_, fun hk => hne h hk rfl, r6.nt⟩, fun k hk => .inr (Nat.le_trans huw (Nat.le_trans hw5 (N.out k hk))), hin1.out⟩, (U1.out.trans ((updFalse_of (B5.out.trans (B.out.mono hw5))).mono (fun k hk => hk.elim))).trans hu2⟩
                  · have := r6.head.put 3 (.slice a' n' cap')
                    rw [HS1.out] at this
                    exact this
                  · have := V'.out.upd hu2 hne
                    rw [← HL.out] at this
                    exact this
                  · have := r6.told.upd hu2 (fun k hk e => r6.nt (e ▸ hk))
                    rw [HS1.out] at this
                    exact this
      · obtain rfl : a = S := by omega
        have p1 : decide (a < a) = false := decide_eq_false (by omega)
        have p2 : decide ((a : Int) < (a : Int)) = false := decide_eq_false (by omega)
        have hspot : spot a l n = none := spot_no fun b hb hc => NO.out b (by omega) ⟨hc, hb⟩
        have hres2 := HRES.out
        rw [reserve_none (s := s) h1 (by rw [HSS.out]; omega) (by rw [HSS.out, HL.out]; exact hspot)] at hres2
        obtain ⟨rfl, rfl, rfl⟩ : (0 : Int) = A' ∧ (4 : Int) = E' ∧ s.no = s' := by injection hres2 with q1 q2; injection q2 with q2 q3; exact ⟨q1, q2, q3⟩
        clear hres2 hspot
        go_wp2
        go_quiet (fail)
        have r2 := ST.out.1.drewN nq
        have f2 := r2.head.frozen 2
        have x2 := r2.c2
        rw [er] at x2
        have R2 := Lib.hid r2
        have rb := HR0.out
        clear d0 d1 p1 p2 r2
        go_wp2
        go_ret2
        refine ⟨rfl, ?_⟩
        have hu2 := upd_cell (wr.drewN nq) h 2 (.int .i64 ((s.r : Int) + 1))
        have R3 := R2.out
        refine ⟨⟨_, tv1, ⟨?_, ?_, ?_, R3.nl, R3.nt⟩, fun k hk => .inl hk, hin1.out⟩, ?_⟩
        · have := R3.head.put 2 (.int .i64 ((s.r : Int) + 1))
          rw [HS1.out] at this
          exact this
        · have := R3.list.upd hu2 (fun k hk e => R3.nl (e ▸ hk))
          rw [HS1.out] at this
          exact this
        · have := R3.told.upd hu2 (fun k hk e => R3.nt (e ▸ hk))
          rw [HS1.out] at this
          exact this
        · exact (U1.out.trans ((updFalse_of (show Below w.heap.size w (wr.drewN nq) from ST.out.2.trans ⟨rfl, rfl, rfl, Nat.le_refl _, fun _ _ => rfl⟩)).mono (fun k hk => hk.elim))).trans hu2
set_option maxRecDepth 100000 in
set_option maxHeartbeats 4000000 in
theorem ref_reserve_cons (r : RefIs w h s lv tv) (hg : ArenaMath.Good s) (n : Nat) (h1 : 1 ≤ n) (h2 : n ≤ s.S) (hr : s.r ≤ 1000000000000) (hd : s.T.headD false = false) (ho : total s.l + n ≤ s.lim) (A' E' : Int) (s' : St) (hres : reserve s (n : Int) = (A', E', s')) (T : List Bool) (hT : s.T = false :: T) :
    Calls Try.prog 17 #[.pointer (some ⟨h, 0, none⟩), .int .i64 (n : Int)] w fun e w' => e = .returned (.tuple #[.int .i64 A', .int .i64 E']) ∧ RefTo w h lv tv s' w' := by
  obtain ⟨i0, hi, hz0, hz1, hz2⟩ := info_parts infoR45
  have hhd := Lib.hid hd
  have c0 := r.c0
  have c4 := r.c4
  have hS := hg.S2
  have hlim := hg.lim
  have hsum := hg.sum
  have hTl := hg.told
  have hll : s.l.length ≤ 64 := by have := length_le_total hg.ok; omega
  have t0 : decide ((n : Int) < 1) = false := decide_eq_false (by omega)
  have t1 : decide (s.S < n) = false := decide_eq_false (by omega)
  clear hd
  · obtain ⟨ta, tcap, rfl, ht1, ht2⟩ := r.told.shape
    obtain ⟨tb, toff, rfl, htc⟩ := r.told.seq.elem (i := 0) (x := false) (by rw [hT]; rfl)
    have hcell := htc 0 (.bool false) rfl
    simp only [Nat.zero_mul, Nat.add_zero] at hcell
    obtain ⟨sv, hsv, hsin, _, hvec⟩ := cut_from (E := Elem.bools) (P := Try.prog) 31 Try.underlying31 sizeBs (some ⟨tb, toff, none⟩) s.T.length tcap 1 (by rw [hT]; simp) ht1
    rw [show ((1 : Nat) : Int) = (1 : Int) from rfl] at hsv
    obtain ⟨xa, xn, xcap, rfl⟩ := (hvec _ _ r.told).is
    obtain ⟨nt, hnt⟩ : ∃ nt, s.T.length = nt := ⟨_, rfl⟩
    have hnt1 : 1 ≤ nt := by rw [← hnt, hT]; simp
    have tn : decide (0 < nt) = true := decide_eq_true (by omega)
    have tn2 : decide ((0 : Int) < (nt : Int)) = true := decide_eq_true (by omega)
    obtain ⟨w1, hw1⟩ : ∃ w1, w.setCell ⟨h, 4, none⟩ (.slice xa xn xcap) = w1 := ⟨_, rfl⟩
    have f4 : w.frozen? ⟨h, 4, none⟩ = false := r.head.frozen 4
    have hnx : ∀ k, In (.slice xa xn xcap) k → k ≠ h := fun k hk e => r.nt (e ▸ hsin k hk)
    have hu := upd_cell w h 4 (.slice xa xn xcap)
    have R1 : Hid (RefIs w1 h { s with T := s.T.drop 1 } lv (.slice xa xn xcap)) := Lib.hid (by
      rw [← hw1]
      exact ⟨r.head.put 4 _, r.list.upd hu (fun k hk e => r.nl (e ▸ hk)), (hvec _ _ r.told).upd hu hnx, r.nl, fun hk => hnx h hk rfl⟩)
    have U1 : Hid (Upd (fun k => k = h) w w1) := Lib.hid (by rw [← hw1]; exact hu)
    have hin1 : Hid (∀ k, In (.slice xa xn xcap) k → In (.slice (some ⟨tb, toff, none⟩) s.T.length tcap) k ∨ w.heap.size ≤ k) := Lib.hid fun k hk => .inl (hsin k hk)
    obtain ⟨s1, hs1⟩ : ∃ s1 : St, s1 = { s with T := s.T.drop 1 } := ⟨_, rfl⟩
    rw [← hs1] at R1
    have e1 : s1.S = s.S ∧ s1.lim = s.lim ∧ s1.l = s.l ∧ s1.r = s.r := by rw [hs1]; exact ⟨rfl, rfl, rfl, rfl⟩
    rw [hnt] at c4 hsv ht1 hTl hin1 ⊢
    obtain ⟨tv1, htv1⟩ : ∃ tv1, Value.slice xa xn xcap = tv1 := ⟨_, rfl⟩
    rw [htv1] at R1 hin1
    have HW1 := Lib.hid hw1
    have HT := Lib.hid hT
    have HS1 := Lib.hid hs1
    clear hT hs1 htv1 hnx hu hvec hsin htc hnt
    have HR0 := Lib.hid hr
    obtain ⟨eS, eL, el, er⟩ := e1
    have hgood1 : Hid (ArenaMath.Good s1) := Lib.hid (by rw [HS1.out]; exact ⟨hg.S1, hg.S2, hg.lim, hg.ok, hg.sum, by have := hg.told; simp; omega⟩)
    have OKs := Lib.hid hg.ok
    have HRES := Lib.hid hres
    have hlv := R1.out.list
    obtain ⟨la, lcap, rfl, hlc, hlm⟩ := hlv.shape
    obtain ⟨l, hl⟩ : ∃ l, s.l = l := ⟨_, rfl⟩
    obtain ⟨S, hSS⟩ : ∃ S, s.S = S := ⟨_, rfl⟩
    obtain ⟨ln, hln⟩ : ∃ ln, l.length = ln := ⟨_, rfl⟩
    rw [el, hl] at hlv hlc
    rw [hln] at hlv hlc
    rw [el, hl, hln] at R1 ⊢
    have LN := Lib.hid hln
    have LV1 := Lib.hid hlv.seq
    have HL := Lib.hid hl; have HSS := Lib.hid hSS
    have OK : Hid (Ok S l) := Lib.hid (by rw [← hl, ← hSS]; exact OKs.out)
    have hlb : ln ≤ 64 := by rw [← hln, ← hl]; exact hll
    have hsum2 : total l ≤ S := by rw [← hl, ← hSS]; omega
    rw [hSS] at c0 hS hlim t1 h2 eS
    rw [hl] at ho el
    clear r hg hres hlv hll hsum hl hSS hln
    go_enter Try.func17, Try.ntmps17
    go_wp2
    try rw [hw1]
    clear hw1 tn tn2
    go_loopw [7] (fun i wr => Searching w1 h s1 (.slice la ln lcap) tv1 S l n i wr) (fun i _ => S - (intOf i).toNat)
    case atStart => exact ⟨0, Nat.zero_le _, rfl, fun b hb => by omega, R1.out, Below.refl _ _⟩
    case round =>
      obtain ⟨a, ha, rfl, hno, hst⟩ := hrel
      have ST : Hid (RHeld w1 h s1 (.slice la ln lcap) tv1 wr) := Lib.hid hst
      have NO := Lib.hid hno
      have d0 := hst.1.c0
      have d1 := hst.1.c1
      rw [eS] at d0
      rw [eL] at d1
      clear hst hno
      by_cases haS : a < S
      · have p1 : decide (a < S) = true := decide_eq_true haS
        have p2 : decide ((a : Int) < (S : Int)) = true := decide_eq_true (by omega)
        have hrg := fun (w' : World) (k : RHeld w1 h s1 (.slice la ln lcap) tv1 w') => rheld_given k (by rw [el]; exact ⟨by omega, by rw [LN.out]; omega⟩)
        rw [el] at hrg
        have HG := Lib.hid hrg
        obtain ⟨tl, htl⟩ : ∃ tl, total l = tl := ⟨_, rfl⟩
        rw [htl] at HG ho hsum2
        have p3 : decide (((tl : Nat) : Int) + (n : Int) ≤ (s.lim : Int)) = true := decide_eq_true (by omega)
        have hwr : IntKind.i64.wrap ((tl : Int) + (n : Int)) = (tl : Int) + (n : Int) := IntWalk.i64_in _ ⟨by omega, by omega⟩
        have HTL := Lib.hid htl
        clear hrg htl
        go_wp2
        go_region_held3 (fun w' => w'.cell? ⟨h, 0, none⟩ = some (.int .i64 (S : Int)) ∧ w'.cell? ⟨h, 1, none⟩ = some (.int .i64 (s.lim : Int))) (first | go_keep | exact ⟨d0, d1⟩)
          (first
            | (go_at_call 21; (first | (with_reducible refine (HG.out _ ST.out.drew).mono ?_) | (with_reducible refine (HG.out _ ST.out).mono ?_)); rintro e w3 ⟨rfl, hst⟩; have d0 := hst.1.c0; have d1 := hst.1.c1; rw [eS] at d0; rw [eL] at d1; have ST := Lib.hid hst; clear hst))
        -- x, and is it free?
        obtain ⟨c, hc⟩ : ∃ c, decide (clear s1.l a n ∧ a + n ≤ s1.S) = c := ⟨_, rfl⟩
        have hfree := ref_free (ST.out.1.alloc (.cells #[.int .i64 (a : Int), .int .i64 (n : Int)] 67)) hgood1.out a n (by omega) (by omega) c hc
        have HF := Lib.hid hfree
        rw [el, eS] at hc
        have HC := Lib.hid hc
        obtain ⟨bx, hbx⟩ : ∃ bx, w3.heap.size = bx := ⟨_, rfl⟩
        have hbk : Blk (w3.alloc (.cells #[.int .i64 (a : Int), .int .i64 (n : Int)] 67)) bx 67 #[.int .i64 (a : Int), .int .i64 (n : Int)] := by rw [← hbx]; exact Blk.new w3 _ _
        have BK := Lib.hid hbk
        have HBX := Lib.hid hbx
        clear hfree hc hbk p1 p2 p3 hwr d0 d1 HG
        go_wp2_with fail
        refine HF.out.mono ?_; rintro e w5 ⟨rfl, hb5⟩
        have BX5 : Hid (Blk w5 bx 67 #[.int .i64 (a : Int), .int .i64 (n : Int)]) := Lib.hid ((hb5.block bx BK.out.lt).trans BK.out)
        have hs3 := ST.out.2.size
        have B5 : Hid (Below w1.heap.size w1 w5) := Lib.hid ((ST.out.2.alloc hs3 _).trans (hb5.mono (Nat.le_trans hs3 (by simp))))
        have R5 : Hid (RefIs w5 h s1 (.slice la ln lcap) tv1) := Lib.hid ((ST.out.1.alloc _).grew hb5)
        clear hb5 hs3 HF
        cases c with
        | false =>
          clear hbx
          go_wp2
          go_roundw
          case rel => exact ⟨a + 1, by omega, by go_num, (fun b hb => by
            rcases Nat.lt_or_ge b a with h | h
            · exact NO.out b h
            · obtain rfl : b = a := by omega
              exact of_decide_eq_false HC.out), R5.out, B5.out⟩
          case measure => simp [intOf]; omega
        | true =>
          have hcc := of_decide_eq_true HC.out
          have hspot : spot S l n = some a := spot_of h1 hcc.2 hcc.1 (fun b hb hc => NO.out b hb ⟨hc, by omega⟩)
          have HSP := Lib.hid hspot
          have LVB : Hid (∀ wr, Below w5.heap.size w5 wr → Seq Elem.pairs wr (.slice la ln lcap) l) := Lib.hid fun wr hb => (LV1.out.below (Nat.le_refl _) B5.out).below (Nat.le_refl _) hb
          have c35 := R5.out.c3
          clear hcc hspot hbx
          go_wp2
          go_loopw [9, 79] (fun v i wr => Sifting w5 [] l (fun x => decide (x.1 < a)) v i wr) (fun v i _ => ln - (intOf i).toNat)
          case atStart => exact ⟨0, Nat.zero_le _, rfl, Vec.nil _, (by intro b hb; cases hb), Below.refl _ _⟩
          case round =>
            obtain ⟨j, hj, rfl, hv, hin, hb⟩ := hrel
            obtain ⟨a', n', cap', rfl⟩ := hv.is
            have V := Lib.hid hv; have N := Lib.hid hin; have B := Lib.hid hb
            have sr := hb.size
            have LB := LVB.out _ hb
            clear hv hin hb
            by_cases hjl : j < ln
            · obtain ⟨⟨y1, y2⟩, hy⟩ : ∃ x, l[j]? = some x := ⟨l[j]'(by rw [LN.out]; exact hjl), List.getElem?_eq_getElem _⟩
              obtain ⟨b2, off2, rfl, hcell⟩ := LB.elem hy
              have d0 := hcell 0 (.int .i64 (y1 : Int)) rfl
              have d1 := hcell 1 (.int .i64 (y2 : Int)) rfl
              simp only [Elem.pairs, Nat.add_zero] at d0 d1
              have hym := OK.out.2 (y1, y2) (List.mem_of_getElem? hy)
              simp only at hym
              have hy1 : y1 ≤ 64 := by omega
              have hy2 : y2 ≤ 64 := by omega
              have hlen : ((l.take j).filter (fun x => decide (x.1 < a))).length ≤ 64 := Nat.le_trans (List.length_filter_le _ _) (by rw [List.length_take, LN.out]; omega)
              have hst := filter_step (fun x => decide (x.1 < a)) hy
              clear hcell hym hy
              by_cases hlt : y1 < a
              · have p1 : decide (y1 < a) = true := decide_eq_true hlt
                rw [if_pos (by simpa using hlt)] at hst
                have HT := Lib.hid hst
                have hvl : (((l.take j).filter (fun x => decide (x.1 < a)))).length ≤ 130 := by omega
                clear hst hlt
                go_wp2_with (at_builtin; refine wpList_append_vec (E := Elem.pairs) rfl (.tmp 87) (.tmp 89) 40 rfl 67 i0 (.agg #[.int .i64 0, .int .i64 0]) 16 Try.underlying40 hi hz0 hz1 hz2 rfl (.slice a' n' cap') (.slice (some ⟨wr.heap.size + 1, 0, none⟩) 1 1) ((l.take j).filter (fun x => decide (x.1 < a))) [(y1, y2)] rfl rfl ((V.out.alloc _).alloc _) (pair_at (wr.alloc (.cells #[.int .i64 (y1 : Int), .int .i64 (y2 : Int)] 67)) _ y1 y2 _ (by simp)) ?_ ?_ ?_; (simp only [maxLen, List.length_cons, List.length_nil]; omega); (simp only [List.length_cons, List.length_nil]; omega); intro v2 w6 hv2 hu2 hin2; have V2 := Lib.hid hv2; have B2 := Lib.hid (below_in ((B.out.alloc sr _).alloc (Nat.le_trans sr (by simp)) _) (Nat.le_trans sr (by simp; omega)) N.out hu2); have N2 := Lib.hid hin2; clear hv2 hu2 hin2)
                go_roundw
                case rel =>
                  refine ⟨j + 1, by rw [LN.out]; omega, by go_num, by rw [HT.out]; exact V2.out, fun b hb => ?_, B2.out⟩
                  rcases N2.out b hb with x | x
                  · exact N.out b x
                  · simp at x; omega
                case measure => simp [intOf]; omega
              · have p1 : decide (y1 < a) = false := decide_eq_false hlt
                rw [if_neg (by simpa using hlt), List.append_nil] at hst
                have HT := Lib.hid hst
                clear hst hlt
                go_wp2
                go_roundw
                case rel => exact ⟨j + 1, by rw [LN.out]; omega, by go_num, by rw [HT.out]; exact V.out.alloc _, N.out, B.out.alloc sr _⟩
                case measure => simp [intOf]; omega
            · obtain rfl : ln = j := by rw [LN.out] at hj; omega
              have e0 : (l.take ln).filter (fun x => decide (x.1 < a)) = l.filter (fun x => decide (x.1 < a)) := by rw [← LN.out, List.take_length]
              have V' : Hid (Vec Elem.pairs wr (.slice a' n' cap') (l.filter (fun x => decide (x.1 < a)))) := Lib.hid (by have := V.out; rwa [List.nil_append, e0] at this)
              obtain ⟨L1, hL1⟩ : ∃ L1, l.filter (fun x => decide (x.1 < a)) = L1 := ⟨_, rfl⟩
              have hlen1 : L1.length ≤ 64 := by rw [← hL1]; exact Nat.le_trans (List.length_filter_le _ _) (by rw [LN.out]; omega)
              rw [hL1] at V'
              have HL1 := Lib.hid hL1
              have k0 : wr.cell? ⟨bx, 0, none⟩ = some (.int .i64 (a : Int)) := (Blk.cell (cs := #[.int .i64 (a : Int), .int .i64 (n : Int)]) ((B.out.block bx BX5.out.lt).trans BX5.out) 0)
              have k1 : wr.cell? ⟨bx, 1, none⟩ = some (.int .i64 (n : Int)) := (Blk.cell (cs := #[.int .i64 (a : Int), .int .i64 (n : Int)]) ((B.out.block bx BX5.out.lt).trans BX5.out) 1)
              have c3r : Hid (∀ w6, Below w5.heap.size w5 w6 → w6.cell? ⟨h, 3, none⟩ = some (.slice la ln lcap) ∧ w6.frozen? ⟨h, 3, none⟩ = false) := Lib.hid fun w6 hb => by
                have r6 := R5.out.grew hb
                exact ⟨r6.c3, r6.head.frozen 3⟩
              clear e0 hL1 V
              go_wp2_with (at_builtin; refine wpList_append_vec (E := Elem.pairs) rfl (.tmp 92) (.tmp 94) 40 rfl 67 i0 (.agg #[.int .i64 0, .int .i64 0]) 16 Try.underlying40 hi hz0 hz1 hz2 rfl (.slice a' n' cap') (.slice (some ⟨wr.heap.size, 0, none⟩) 1 1) L1 [(a, n)] rfl rfl (V'.out.alloc _) (pair_at wr _ a n _ rfl) ?_ ?_ ?_; (simp only [maxLen, List.length_cons, List.length_nil]; omega); (simp only [List.length_cons, List.length_nil]; omega); intro v2 w7 hv2 hu2 hin2; obtain ⟨a3, n3, cap3, rfl⟩ := hv2.is; have V3 := Lib.hid hv2; have B3 := Lib.hid (below_in (B.out.alloc sr _) (Nat.le_trans sr (by simp)) N.out hu2); have M3 : Hid (∀ b, In (.slice a3 n3 cap3) b → w5.heap.size ≤ b) := Lib.hid (fun b hb => by rcases hin2 b hb with x | x; exact N.out b x; (simp at x; omega)); clear hv2 hu2 hin2; have c36 := (c3r.out _ B3.out).1)
              clear k0 k1
              go_wp2
              go_loopw [9, 101] (fun v i wr => Sifting w5 (L1 ++ [(a, n)]) l (fun x => decide (a < x.1)) v i wr) (fun v i _ => ln - (intOf i).toNat)
              case atStart => exact ⟨0, Nat.zero_le _, rfl, by simpa using V3.out, M3.out, B3.out⟩
              case round =>
                obtain ⟨j, hj, rfl, hv, hin, hb⟩ := hrel
                obtain ⟨a', n', cap', rfl⟩ := hv.is
                have V := Lib.hid hv; have N := Lib.hid hin; have B := Lib.hid hb
                have sr := hb.size
                have LB := LVB.out _ hb
                clear hv hin hb
                by_cases hjl : j < ln
                · obtain ⟨⟨y1, y2⟩, hy⟩ : ∃ x, l[j]? = some x := ⟨l[j]'(by rw [LN.out]; exact hjl), List.getElem?_eq_getElem _⟩
                  obtain ⟨b2, off2, rfl, hcell⟩ := LB.elem hy
                  have d0 := hcell 0 (.int .i64 (y1 : Int)) rfl
                  have d1 := hcell 1 (.int .i64 (y2 : Int)) rfl
                  simp only [Elem.pairs, Nat.add_zero] at d0 d1
                  have hym := OK.out.2 (y1, y2) (List.mem_of_getElem? hy)
                  simp only at hym
                  have hy1 : y1 ≤ 64 := by omega
                  have hy2 : y2 ≤ 64 := by omega
                  have hlen : ((l.take j).filter (fun x => decide (a < x.1))).length ≤ 64 := Nat.le_trans (List.length_filter_le _ _) (by rw [List.length_take, LN.out]; omega)
                  have hst := filter_step (fun x => decide (a < x.1)) hy
                  clear hcell hym hy
                  by_cases hlt : a < y1
                  · have p1 : decide (a < y1) = true := decide_eq_true hlt
                    rw [if_pos (by simpa using hlt)] at hst
                    have HT := Lib.hid hst
                    have hvl : ((L1 ++ [(a, n)]) ++ ((l.take j).filter (fun x => decide (a < x.1)))).length ≤ 130 := by simp only [List.length_append, List.length_cons, List.length_nil]; omega
                    clear hst hlt
                    go_wp2_with (at_builtin; refine wpList_append_vec (E := Elem.pairs) rfl (.tmp 109) (.tmp 111) 40 rfl 67 i0 (.agg #[.int .i64 0, .int .i64 0]) 16 Try.underlying40 hi hz0 hz1 hz2 rfl (.slice a' n' cap') (.slice (some ⟨wr.heap.size + 1, 0, none⟩) 1 1) ((L1 ++ [(a, n)]) ++ (l.take j).filter (fun x => decide (a < x.1))) [(y1, y2)] rfl rfl ((V.out.alloc _).alloc _) (pair_at (wr.alloc (.cells #[.int .i64 (y1 : Int), .int .i64 (y2 : Int)] 67)) _ y1 y2 _ (by simp)) ?_ ?_ ?_; (simp only [maxLen, List.length_cons, List.length_nil]; omega); (simp only [List.length_cons, List.length_nil]; omega); intro v2 w6 hv2 hu2 hin2; have V2 := Lib.hid hv2; have B2 := Lib.hid (below_in ((B.out.alloc sr _).alloc (Nat.le_trans sr (by simp)) _) (Nat.le_trans sr (by simp; omega)) N.out hu2); have N2 := Lib.hid hin2; clear hv2 hu2 hin2)
                    go_roundw
                    case rel =>
                      refine ⟨j + 1, by rw [LN.out]; omega, by go_num, by rw [HT.out]; rw [← List.append_assoc]; exact V2.out, fun b hb => ?_, B2.out⟩
                      rcases N2.out b hb with x | x
                      · exact N.out b x
                      · simp at x; omega
                    case measure => simp [intOf]; omega
                  · have p1 : decide (a < y1) = false := decide_eq_false hlt
                    rw [if_neg (by simpa using hlt), List.append_nil] at hst
                    have HT := Lib.hid hst
                    clear hst hlt
                    go_wp2
                    go_roundw
                    case rel => exact ⟨j + 1, by rw [LN.out]; omega, by go_num, by rw [HT.out]; exact V.out.alloc _, N.out, B.out.alloc sr _⟩
                    case measure => simp [intOf]; omega
                · obtain rfl : ln = j := by rw [LN.out] at hj; omega
                  have e0 : (l.take ln).filter (fun x => decide (a < x.1)) = l.filter (fun x => decide (a < x.1)) := by rw [← LN.out, List.take_length]
                  have V' : Hid (Vec Elem.pairs wr (.slice a' n' cap') (put l a n)) := Lib.hid (by
                    have := V.out
                    rw [e0, ← HL1.out] at this
                    simpa [put] using this)
                  obtain ⟨c37, f37⟩ := c3r.out _ B.out
                  have hres2 := HRES.out
                  rw [reserve_some (s := s) h1 (by rw [HSS.out]; omega) hhd.out (by rw [HL.out, HTL.out]; omega) (by rw [HSS.out, HL.out]; exact HSP.out)] at hres2
                  obtain ⟨rfl, rfl, rfl⟩ : (a : Int) = A' ∧ (0 : Int) = E' ∧ s.give a n = s' := by injection hres2 with q1 q2; injection q2 with q2 q3; exact ⟨q1, q2, q3⟩
                  have hlt5 := R5.out.head.lt
                  have hw15 := B5.out.size
                  clear e0 hres2 V
                  go_wp2
                  go_ret2
                  have r6 := R5.out.grew B.out
                  have hu2 := upd_cell wr h 3 (.slice a' n' cap')
                  have hne : ∀ k, In (.slice a' n' cap') k → k ≠ h := fun k hk e => by have := N.out k hk; omega
                  have huw := U1.out.size
                  refine ⟨rfl, ⟨_, tv1, ⟨?_, ?_, ?_, fun hk => hne h hk rfl, r6.nt⟩, fun k hk => .inr (Nat.le_trans huw (Nat.le_trans hw15 (N.out k hk))), hin1.out⟩, (U1.out.trans ((updFalse_of (B5.out.trans (B.out.mono hw15))).mono (fun k hk => hk.elim))).trans hu2⟩
                  · have := r6.head.put 3 (.slice a' n' cap')
                    rw [HS1.out] at this
                    exact this
                  · have := V'.out.upd hu2 hne
                    rw [← HL.out] at this
                    exact this
                  · have := r6.told.upd hu2 (fun k hk e => r6.nt (e ▸ hk))
                    rw [HS1.out] at this
                    exact this
      · obtain rfl : a = S := by omega
        have p1 : decide (a < a) = false := decide_eq_false (by omega)
        have p2 : decide ((a : Int) < (a : Int)) = false := decide_eq_false (by omega)
        have hspot : spot a l n = none := spot_no fun b hb hc => NO.out b (by omega) ⟨hc, hb⟩
        have hres2 := HRES.out
        rw [reserve_none (s := s) h1 (by rw [HSS.out]; omega) (by rw [HSS.out, HL.out]; exact hspot)] at hres2
        obtain ⟨rfl, rfl, rfl⟩ : (0 : Int) = A' ∧ (4 : Int) = E' ∧ s.no = s' := by injection hres2 with q1 q2; injection q2 with q2 q3; exact ⟨q1, q2, q3⟩
        clear hres2 hspot
        go_wp2
        go_quiet (fail)
        have r2 := ST.out.1.drewN nq
        have f2 := r2.head.frozen 2
        have x2 := r2.c2
        rw [er] at x2
        have R2 := Lib.hid r2
        have rb := HR0.out
        clear d0 d1 p1 p2 r2
        go_wp2
        go_ret2
        refine ⟨rfl, ?_⟩
        have hu2 := upd_cell (wr.drewN nq) h 2 (.int .i64 ((s.r : Int) + 1))
        have R3 := R2.out
        refine ⟨⟨_, tv1, ⟨?_, ?_, ?_, R3.nl, R3.nt⟩, fun k hk => .inl hk, hin1.out⟩, ?_⟩
        · have := R3.head.put 2 (.int .i64 ((s.r : Int) + 1))
          rw [HS1.out] at this
          exact this
        · have := R3.list.upd hu2 (fun k hk e => R3.nl (e ▸ hk))
          rw [HS1.out] at this
          exact this
        · have := R3.told.upd hu2 (fun k hk e => R3.nt (e ▸ hk))
          rw [HS1.out] at this
          exact this
        · exact (U1.out.trans ((updFalse_of (show Below w1.heap.size w1 (wr.drewN nq) from ST.out.2.trans ⟨rfl, rfl, rfl, Nat.le_refl _, fun _ _ => rfl⟩)).mono (fun k hk => hk.elim))).trans hu2
end
end Go.Proofs.Ytnkahcfkbpbhiaa
