/- The law ArenaActs, walked. -/
import Derived.Test.YtnkahcfkbpbhiaaRefA6
import Derived.Test.YtnkahcfkbpbhiaaReads
import Derived.Deep.RegionHeld3
namespace Go.Proofs.Ytnkahcfkbpbhiaa.arenaActs
open Go.RowKit ArenaMath
set_option linter.unusedVariables false

def Acting (w : World) (q h len : Nat) (i : Value) (wr : World) : Prop := ∃ k : Nat, k ≤ len ∧ i = .int .i64 (k : Int) ∧ ∃ s : St, s.r ≤ k ∧ Two w q h s s wr
theorem act_later {w : World} {a : Option Addr} {n cap len : Nat} {F : Nat → Nat → Value} (h : Recs w (.slice a n cap) [.num .i64, .num .i64, .flags] len F) {i : Nat} (hi : i < len) :
    ∃ b off x y A m c, ∃ lf : List Bool, a = some ⟨b, off, none⟩ ∧ (∀ w', Below w.heap.size w w' → w'.cell? ⟨b, off + i * 3, none⟩ = some (.int .i64 x) ∧ w'.cell? ⟨b, off + i * 3 + 1, none⟩ = some (.int .i64 y) ∧ w'.cell? ⟨b, off + i * 3 + 2, none⟩ = some (.slice A m c) ∧ FlagsAt w' (.slice A m c) lf) ∧ I64 x ∧ I64 y := by
  obtain ⟨b, off, x, y, A, m, c, lf, ea, c0, c1, c2, hf, hx, hy⟩ := h.act hi
  exact ⟨b, off, x, y, A, m, c, lf, ea, fun w' hb => ⟨cell_later c0 (Nat.le_refl _) hb, cell_later c1 (Nat.le_refl _) hb, cell_later c2 (Nat.le_refl _) hb, hf.below (Nat.le_refl _) hb⟩, hx, hy⟩

set_option maxRecDepth 100000 in
set_option maxHeartbeats 4000000 in
theorem walk_short (w : World) (S lim : Nat) (h1 : 1 ≤ S) (h2 : S ≤ 64) (h3 : lim ≤ S) (a : Option Addr) (len cap : Nat) (F : Nat → Nat → Value) (hF : Recs w (.slice a len cap) [.num .i64, .num .i64, .flags] len F) (hl : len ≤ 100) :
    Calls Try.prog 3 #[.int .i64 (S : Int), .int .i64 (lim : Int), .slice a len cap] w fun e w' => e = .returned (.bool true) ∧ Below w.heap.size w w' := by
  have H := Lib.hid hF
  have t0 : decide ((100 : Int) < (len : Int)) = false := decide_eq_false (by omega)
  clear hF
  go_enter Try.func3, Try.ntmps3
  go_wp2_with fail
  refine (alive_any _).mono ?_; rintro e w1 ⟨rfl, hb⟩
  have B1 := Lib.hid hb
  have s1 := hb.size
  clear hb
  go_wp2_with fail
  refine (arena_new S lim h1 h2 h3 w1).mono ?_; intro e w2 hN
  obtain ⟨q, own, rfl, hA, ho, hu⟩ := isArena_new h1 h2 h3 hN
  have A2 := Lib.hid hA; have O2 := Lib.hid ho
  have B2 := Lib.hid (B1.out.trans (below_false hu s1))
  have s2 := B2.out.size
  clear hN hA ho hu
  go_wp2_with fail
  refine (ref_new S lim h1 h2 h3 w2).mono ?_; rintro e w3 ⟨h, rfl, hR, hh, hu⟩
  have T3 : Hid (Two w q h ⟨S, lim, [], [], 0⟩ ⟨S, lim, [], [], 0⟩ w3) := Lib.hid ⟨own, _, _, A2.out.upd hu (fun _ _ => id), hR, fun k hk => Nat.le_trans s1 (O2.out k hk), Nat.le_trans s2 hh, fun k hk => ⟨fun e => by have := A2.out.lt hk; omega, (by intro x; cases x), (by intro x; cases x)⟩, B2.out.trans (below_false hu s2)⟩
  clear hR hh hu h1 h2 h3
  go_wp2_with fail
  clear t0
  go_loopw [50] (fun i wr => Acting w q h len i wr) (fun i _ => len - (intOf i).toNat)
  case atStart => exact ⟨0, Nat.zero_le _, rfl, _, Nat.zero_le _, T3.out⟩
  case round =>
    obtain ⟨k, hk2, rfl, s, er, hs⟩ := hrel
    have S4 := Lib.hid hs
    have G4 := Lib.hid hs.good
    have hsr : s.r ≤ 1000000000000 := by omega
    clear hs
    by_cases hlt : k < len
    · obtain ⟨b, off, x, y, A, m, c, lf, rfl, hlat, hx, hy⟩ := act_later H.out hlt
      have LAT := Lib.hid hlat
      obtain ⟨c1, c2, c3, hfl⟩ := hlat _ S4.out.below
      obtain rfl := hfl.len
      obtain ⟨bb, hbb⟩ : ∃ bb, wr.heap.size = bb := ⟨_, rfl⟩
      have st : Both w q h bb #[.int .i64 x, .int .i64 y, .slice A lf.length c] s s (wr.alloc (.cells #[.int .i64 x, .int .i64 y, .slice A lf.length c] 33)) := S4.out.both _ hbb
      clear hfl hx hy hlat
      by_cases hx1 : x = 1
      · have t1 : (x == 1) = true := by rw [beq_iff_eq]; exact hx1
        have HX := Lib.hid hx1
        have hsame := release_same s y
        obtain ⟨E', hE⟩ : ∃ E', (release s y).1 = E' := ⟨_, rfl⟩
        obtain ⟨s2, hs2⟩ : ∃ s2, (release s y).2 = s2 := ⟨_, rfl⟩
        have E5 : Hid (s2.r ≤ k + 1) := Lib.hid (by rw [← hs2]; have := hsame.2.2; omega)
        have HM : Hid (∀ t' w', Both w q h bb #[.int .i64 x, .int .i64 y, .slice A lf.length c] s t' w' → Calls Try.prog 12 #[.pointer (some ⟨q, 0, none⟩), .int .i64 y] w' fun e w2 => e = .returned (.int .i64 E') ∧ Both w q h bb #[.int .i64 x, .int .i64 y, .slice A lf.length c] s2 t' w2) :=
          Lib.hid fun t' w' b => by have := both_release_a b y; rwa [hE, hs2] at this
        have HR : Hid (∀ s' w', Both w q h bb #[.int .i64 x, .int .i64 y, .slice A lf.length c] s' s w' → Calls Try.prog 13 #[.pointer (some ⟨h, 0, none⟩), .int .i64 y] w' fun e w2 => e = .returned (.int .i64 E') ∧ Both w q h bb #[.int .i64 x, .int .i64 y, .slice A lf.length c] s' s2 w2) :=
          Lib.hid fun s' w' b => by have := both_release_r G4.out b y; rwa [hE, hs2] at this
        clear hx1 hE hs2 hsame
        go_wp2_with fail
        obtain ⟨W1, hW1⟩ : ∃ W1, wr.alloc (.cells #[.int .i64 x, .int .i64 y, .slice A lf.length c] 33) = W1 := ⟨_, rfl⟩
        rw [hW1] at st ⊢
        have ST := Lib.hid st
        have HBB := Lib.hid hbb
        have d1 := st.cell 1
        simp only [List.getElem?_toArray, List.getElem?_cons_succ, List.getElem?_cons_zero] at d1
        clear st hW1 hbb c1 c2 c3
        go_region_held3 (fun w' => w'.cell? ⟨bb, 1, none⟩ = some (.int .i64 y)) (first | go_keep | exact d1)
          (first
            | (go_at_call 12; (first | (with_reducible refine (HM.out _ _ ST.out.drew).mono ?_) | (with_reducible refine (HM.out _ _ ST.out).mono ?_)); rintro e w5 ⟨rfl, hst⟩; have d1 := hst.cell 1; have ST := Lib.hid hst; clear hst)
            | (go_at_call 13; (first | (with_reducible refine (HR.out _ _ ST.out.drew).mono ?_) | (with_reducible refine (HR.out _ _ ST.out).mono ?_)); rintro e w6 ⟨rfl, hst⟩; have d1 := hst.cell 1; have ST := Lib.hid hst; clear hst))
        clear d1 HM HR t1 HX
        -- what both have now
        obtain ⟨own, lv, tv, hA, hR, h1', h2', h3', hb'⟩ := ST.out.two
        have hgd := ST.out.good
        obtain ⟨la, lcap, rfl, _, _⟩ := hR.list.shape
        obtain ⟨l, hl⟩ : ∃ l, s2.l = l := ⟨_, rfl⟩
        obtain ⟨n, hn⟩ : ∃ n, l.length = n := ⟨_, rfl⟩
        obtain ⟨tl, htl⟩ : ∃ tl, total l = tl := ⟨_, rfl⟩
        have hll : n ≤ 64 := by have := length_le_total hgd.ok; have := hgd.sum; have := hgd.lim; have := hgd.S2; rw [hl] at *; omega
        have htb : tl ≤ 64 := by have := hgd.sum; have := hgd.lim; have := hgd.S2; rw [hl] at *; omega
        have hTW : Two w q h s2 s2 w6 := ⟨own, _, tv, hA, hR, h1', h2', h3', hb'⟩
        have hLS : Seq Elem.pairs w6 (.slice la n lcap) l := by have := hR.list.seq; rwa [hl, hn] at this
        have HCL : Hid (∀ w', Below w6.heap.size w6 w' → w'.cell? ⟨h, 3, none⟩ = some (.slice la n lcap) ∧ w'.cell? ⟨h, 2, none⟩ = some (.int .i64 (s2.r : Int))) := Lib.hid fun w' hb => by
          have r2 := hR.grew hb
          exact ⟨by have := r2.c3; rwa [hl, hn] at this, r2.c2⟩
        have HRG : Hid (∀ w', Below w6.heap.size w6 w' → Calls Try.prog 19 #[.pointer (some ⟨q, 0, none⟩)] w' fun e w2 => ∃ va vc, e = .returned (.slice va n vc) ∧ Seq Elem.pairs w2 (.slice va n vc) l ∧ Below w6.heap.size w6 w2) := Lib.hid fun w' hb => by
          refine (law_regions (hA.grew hb)).mono ?_
          rintro e w2 ⟨v, rfl, hv, _, hb2⟩
          obtain ⟨va, vc, rfl, _, _⟩ := hv.shape
          rw [hl, hn]
          exact ⟨va, vc, rfl, by have := hv.seq; rwa [hl, hn] at this, hb.trans (hb2.mono hb.size)⟩
        have HSM : Hid (∀ w' va vc, Seq Elem.pairs w' (.slice va n vc) l → Below w6.heap.size w6 w' → Calls Try.prog 18 #[.slice va n vc, .slice la n lcap] w' fun e w2 => e = .returned (.bool true) ∧ Below w6.heap.size w6 w2) := Lib.hid fun w' va vc hv hb =>
          (same_any w' va la vc lcap n l hn hv (hLS.below (Nat.le_refl _) hb) (by omega)).mono fun e w2 x => ⟨x.1, hb.trans (x.2.mono hb.size)⟩
        have HGA : Hid (∀ w', Below w6.heap.size w6 w' → Calls Try.prog 20 #[.pointer (some ⟨q, 0, none⟩)] w' fun e w2 => e = .returned (.int .i64 (tl : Int)) ∧ Below w6.heap.size w6 w2) := Lib.hid fun w' hb =>
          (given_any (hA.grew hb)).mono fun e w2 x => ⟨by rw [x.1, hl, htl], hb.trans (x.2.mono hb.size)⟩
        have HGR : Hid (∀ w', Below w6.heap.size w6 w' → Calls Try.prog 21 #[.pointer (some ⟨h, 0, none⟩)] w' fun e w2 => e = .returned (.int .i64 (tl : Int)) ∧ Below w6.heap.size w6 w2) := Lib.hid fun w' hb =>
          (ref_given (hR.grew hb) (by rw [hl, htl]; omega) (by rw [hl, hn]; omega)).mono fun e w2 x => ⟨by rw [x.1, hl, htl], hb.trans (x.2.mono hb.size)⟩
        have HRF : Hid (∀ w', Below w6.heap.size w6 w' → Calls Try.prog 22 #[.pointer (some ⟨q, 0, none⟩)] w' fun e w2 => e = .returned (.int .i64 (s2.r : Int)) ∧ Below w6.heap.size w6 w2) := Lib.hid fun w' hb =>
          (refused_any (hA.grew hb)).mono fun e w2 x => ⟨x.1, by rw [← x.2]; exact hb⟩
        have TW := Lib.hid hTW
        obtain ⟨d3, d2⟩ := HCL.out _ (Below.refl _ _)
        have tT : ((tl : Int) != (tl : Int)) = false := by simp
        obtain ⟨rr, hrr⟩ : ∃ rr, s2.r = rr := ⟨_, rfl⟩
        rw [hrr] at HCL HRF d2
        have tR : ((rr : Int) != (rr : Int)) = false := by simp
        have GR : Hid (Below w6.heap.size w6 w6) := Lib.hid (Below.refl _ _)
        clear hA hR h1' h2' h3' hb' hgd hl hn htl hTW hLS hrr ST
        go_wp2_with fail
        go_region_held3 (fun w' => w'.cell? ⟨h, 3, none⟩ = some (.slice la n lcap) ∧ w'.cell? ⟨h, 2, none⟩ = some (.int .i64 (rr : Int))) (first | go_keep | exact ⟨d3, d2⟩)
          (first
            | (go_at_call 19; (first | (with_reducible refine (HRG.out _ GR.out.drew).mono ?_) | (with_reducible refine (HRG.out _ GR.out).mono ?_)); rintro e w8 ⟨va, vc, rfl, hv8, hst⟩; have d3 := (HCL.out _ hst).1; have d2 := (HCL.out _ hst).2; have V8 := Lib.hid hv8; have GR := Lib.hid hst; clear hst hv8)
            | (go_at_call 18; (with_reducible refine (HSM.out _ va vc V8.out GR.out).mono ?_); rintro e w9 ⟨rfl, hst⟩; have d3 := (HCL.out _ hst).1; have d2 := (HCL.out _ hst).2; have GR := Lib.hid hst; clear hst)
            | (go_at_call 20; (with_reducible refine (HGA.out _ GR.out).mono ?_); rintro e w10 ⟨rfl, hst⟩; have d3 := (HCL.out _ hst).1; have d2 := (HCL.out _ hst).2; have GR := Lib.hid hst; clear hst)
            | (go_at_call 21; (with_reducible refine (HGR.out _ GR.out).mono ?_); rintro e w11 ⟨rfl, hst⟩; have d3 := (HCL.out _ hst).1; have d2 := (HCL.out _ hst).2; have GR := Lib.hid hst; clear hst)
            | (go_at_call 22; (with_reducible refine (HRF.out _ GR.out).mono ?_); rintro e w12 ⟨rfl, hst⟩; have d3 := (HCL.out _ hst).1; have d2 := (HCL.out _ hst).2; have GR := Lib.hid hst; clear hst))
        clear d3 d2 tT tR HRG HSM HGA HGR HRF
        go_wp2
        go_roundw
        case rel => exact ⟨k + 1, by omega, by go_num, s2, E5.out, TW.out.grew GR.out⟩
        case measure => simp [intOf]; omega
      · by_cases hx2 : x = 2
        · have t1 : (x == 1) = false := by rw [beq_eq_false_iff_ne]; exact hx1
          have t2 : (x == 2) = true := by rw [beq_iff_eq]; exact hx2
          have HX := Lib.hid hx2
          by_cases hm : lf.length ≤ 2000
          · have t3 : decide ((2000 : Int) < (lf.length : Int)) = false := decide_eq_false (by omega)
            have HFS : Hid (∀ w', Below w.heap.size w w' → Seq Elem.bools w' (.slice A lf.length c) lf) := Lib.hid fun w' hb => by
              exact (LAT.out w' hb).2.2.2.seq
            have hsame := refuse_same s lf
            obtain ⟨E', hE⟩ : ∃ E', (refuse s lf).1 = E' := ⟨_, rfl⟩
            obtain ⟨s2, hs2⟩ : ∃ s2, (refuse s lf).2 = s2 := ⟨_, rfl⟩
            have E5 : Hid (s2.r ≤ k + 1) := Lib.hid (by rw [← hs2]; have := hsame.2.2; omega)
            have HM : Hid (∀ t' w', Both w q h bb #[.int .i64 x, .int .i64 y, .slice A lf.length c] s t' w' → Calls Try.prog 14 #[.pointer (some ⟨q, 0, none⟩), .slice A lf.length c] w' fun e w2 => e = .returned (.int .i64 E') ∧ Both w q h bb #[.int .i64 x, .int .i64 y, .slice A lf.length c] s2 t' w2) :=
              Lib.hid fun t' w' b => by have := both_refuse_a b (HFS.out _ b.below); rwa [hE, hs2] at this
            have HR : Hid (∀ s' w', Both w q h bb #[.int .i64 x, .int .i64 y, .slice A lf.length c] s' s w' → Calls Try.prog 15 #[.pointer (some ⟨h, 0, none⟩), .slice A lf.length c] w' fun e w2 => e = .returned (.int .i64 E') ∧ Both w q h bb #[.int .i64 x, .int .i64 y, .slice A lf.length c] s' s2 w2) :=
              Lib.hid fun s' w' b => by have := both_refuse_r G4.out b (HFS.out _ b.below) hm; rwa [hE, hs2] at this
            clear hx1 hx2 hE hs2 hsame
            go_wp2_with fail
            obtain ⟨W1, hW1⟩ : ∃ W1, wr.alloc (.cells #[.int .i64 x, .int .i64 y, .slice A lf.length c] 33) = W1 := ⟨_, rfl⟩
            rw [hW1] at st ⊢
            have ST := Lib.hid st
            have HBB := Lib.hid hbb
            have d1 := st.cell 2
            simp only [List.getElem?_toArray, List.getElem?_cons_succ, List.getElem?_cons_zero] at d1
            clear st hW1 hbb c1 c2 c3
            go_region_held3 (fun w' => w'.cell? ⟨bb, 2, none⟩ = some (.slice A lf.length c)) (first | go_keep | exact d1)
              (first
                | (go_at_call 14; (first | (with_reducible refine (HM.out _ _ ST.out.drew).mono ?_) | (with_reducible refine (HM.out _ _ ST.out).mono ?_)); rintro e w5 ⟨rfl, hst⟩; have d1 := hst.cell 2; have ST := Lib.hid hst; clear hst)
                | (go_at_call 15; (first | (with_reducible refine (HR.out _ _ ST.out.drew).mono ?_) | (with_reducible refine (HR.out _ _ ST.out).mono ?_)); rintro e w6 ⟨rfl, hst⟩; have d1 := hst.cell 2; have ST := Lib.hid hst; clear hst))
            clear d1 HM HR t1 t2 t3 HX
            -- what both have now
            obtain ⟨own, lv, tv, hA, hR, h1', h2', h3', hb'⟩ := ST.out.two
            have hgd := ST.out.good
            obtain ⟨la, lcap, rfl, _, _⟩ := hR.list.shape
            obtain ⟨l, hl⟩ : ∃ l, s2.l = l := ⟨_, rfl⟩
            obtain ⟨n, hn⟩ : ∃ n, l.length = n := ⟨_, rfl⟩
            obtain ⟨tl, htl⟩ : ∃ tl, total l = tl := ⟨_, rfl⟩
            have hll : n ≤ 64 := by have := length_le_total hgd.ok; have := hgd.sum; have := hgd.lim; have := hgd.S2; rw [hl] at *; omega
            have htb : tl ≤ 64 := by have := hgd.sum; have := hgd.lim; have := hgd.S2; rw [hl] at *; omega
            have hTW : Two w q h s2 s2 w6 := ⟨own, _, tv, hA, hR, h1', h2', h3', hb'⟩
            have hLS : Seq Elem.pairs w6 (.slice la n lcap) l := by have := hR.list.seq; rwa [hl, hn] at this
            have HCL : Hid (∀ w', Below w6.heap.size w6 w' → w'.cell? ⟨h, 3, none⟩ = some (.slice la n lcap) ∧ w'.cell? ⟨h, 2, none⟩ = some (.int .i64 (s2.r : Int))) := Lib.hid fun w' hb => by
              have r2 := hR.grew hb
              exact ⟨by have := r2.c3; rwa [hl, hn] at this, r2.c2⟩
            have HRG : Hid (∀ w', Below w6.heap.size w6 w' → Calls Try.prog 19 #[.pointer (some ⟨q, 0, none⟩)] w' fun e w2 => ∃ va vc, e = .returned (.slice va n vc) ∧ Seq Elem.pairs w2 (.slice va n vc) l ∧ Below w6.heap.size w6 w2) := Lib.hid fun w' hb => by
              refine (law_regions (hA.grew hb)).mono ?_
              rintro e w2 ⟨v, rfl, hv, _, hb2⟩
              obtain ⟨va, vc, rfl, _, _⟩ := hv.shape
              rw [hl, hn]
              exact ⟨va, vc, rfl, by have := hv.seq; rwa [hl, hn] at this, hb.trans (hb2.mono hb.size)⟩
            have HSM : Hid (∀ w' va vc, Seq Elem.pairs w' (.slice va n vc) l → Below w6.heap.size w6 w' → Calls Try.prog 18 #[.slice va n vc, .slice la n lcap] w' fun e w2 => e = .returned (.bool true) ∧ Below w6.heap.size w6 w2) := Lib.hid fun w' va vc hv hb =>
              (same_any w' va la vc lcap n l hn hv (hLS.below (Nat.le_refl _) hb) (by omega)).mono fun e w2 x => ⟨x.1, hb.trans (x.2.mono hb.size)⟩
            have HGA : Hid (∀ w', Below w6.heap.size w6 w' → Calls Try.prog 20 #[.pointer (some ⟨q, 0, none⟩)] w' fun e w2 => e = .returned (.int .i64 (tl : Int)) ∧ Below w6.heap.size w6 w2) := Lib.hid fun w' hb =>
              (given_any (hA.grew hb)).mono fun e w2 x => ⟨by rw [x.1, hl, htl], hb.trans (x.2.mono hb.size)⟩
            have HGR : Hid (∀ w', Below w6.heap.size w6 w' → Calls Try.prog 21 #[.pointer (some ⟨h, 0, none⟩)] w' fun e w2 => e = .returned (.int .i64 (tl : Int)) ∧ Below w6.heap.size w6 w2) := Lib.hid fun w' hb =>
              (ref_given (hR.grew hb) (by rw [hl, htl]; omega) (by rw [hl, hn]; omega)).mono fun e w2 x => ⟨by rw [x.1, hl, htl], hb.trans (x.2.mono hb.size)⟩
            have HRF : Hid (∀ w', Below w6.heap.size w6 w' → Calls Try.prog 22 #[.pointer (some ⟨q, 0, none⟩)] w' fun e w2 => e = .returned (.int .i64 (s2.r : Int)) ∧ Below w6.heap.size w6 w2) := Lib.hid fun w' hb =>
              (refused_any (hA.grew hb)).mono fun e w2 x => ⟨x.1, by rw [← x.2]; exact hb⟩
            have TW := Lib.hid hTW
            obtain ⟨d3, d2⟩ := HCL.out _ (Below.refl _ _)
            have tT : ((tl : Int) != (tl : Int)) = false := by simp
            obtain ⟨rr, hrr⟩ : ∃ rr, s2.r = rr := ⟨_, rfl⟩
            rw [hrr] at HCL HRF d2
            have tR : ((rr : Int) != (rr : Int)) = false := by simp
            have GR : Hid (Below w6.heap.size w6 w6) := Lib.hid (Below.refl _ _)
            clear hA hR h1' h2' h3' hb' hgd hl hn htl hTW hLS hrr ST
            go_wp2_with fail
            go_region_held3 (fun w' => w'.cell? ⟨h, 3, none⟩ = some (.slice la n lcap) ∧ w'.cell? ⟨h, 2, none⟩ = some (.int .i64 (rr : Int))) (first | go_keep | exact ⟨d3, d2⟩)
              (first
                | (go_at_call 19; (first | (with_reducible refine (HRG.out _ GR.out.drew).mono ?_) | (with_reducible refine (HRG.out _ GR.out).mono ?_)); rintro e w8 ⟨va, vc, rfl, hv8, hst⟩; have d3 := (HCL.out _ hst).1; have d2 := (HCL.out _ hst).2; have V8 := Lib.hid hv8; have GR := Lib.hid hst; clear hst hv8)
                | (go_at_call 18; (with_reducible refine (HSM.out _ va vc V8.out GR.out).mono ?_); rintro e w9 ⟨rfl, hst⟩; have d3 := (HCL.out _ hst).1; have d2 := (HCL.out _ hst).2; have GR := Lib.hid hst; clear hst)
                | (go_at_call 20; (with_reducible refine (HGA.out _ GR.out).mono ?_); rintro e w10 ⟨rfl, hst⟩; have d3 := (HCL.out _ hst).1; have d2 := (HCL.out _ hst).2; have GR := Lib.hid hst; clear hst)
                | (go_at_call 21; (with_reducible refine (HGR.out _ GR.out).mono ?_); rintro e w11 ⟨rfl, hst⟩; have d3 := (HCL.out _ hst).1; have d2 := (HCL.out _ hst).2; have GR := Lib.hid hst; clear hst)
                | (go_at_call 22; (with_reducible refine (HRF.out _ GR.out).mono ?_); rintro e w12 ⟨rfl, hst⟩; have d3 := (HCL.out _ hst).1; have d2 := (HCL.out _ hst).2; have GR := Lib.hid hst; clear hst))
            clear d3 d2 tT tR HRG HSM HGA HGR HRF
            go_wp2
            go_roundw
            case rel => exact ⟨k + 1, by omega, by go_num, s2, E5.out, TW.out.grew GR.out⟩
            case measure => simp [intOf]; omega
          · have t3 : decide ((2000 : Int) < (lf.length : Int)) = true := decide_eq_true (by omega)
            clear hx1 hx2 hm
            go_wp2_with fail
            obtain ⟨W1, hW1⟩ : ∃ W1, wr.alloc (.cells #[.int .i64 x, .int .i64 y, .slice A lf.length c] 33) = W1 := ⟨_, rfl⟩
            rw [hW1] at st ⊢
            have ST := Lib.hid st
            have HBB := Lib.hid hbb
            have d1 := st.cell 2
            simp only [List.getElem?_toArray, List.getElem?_cons_succ, List.getElem?_cons_zero] at d1
            clear st hW1 hbb c1 c2 c3
            go_quiet (fail)
            go_wp2
            go_ret
            exact ⟨rfl, (ST.out.drewN nq).below⟩
        · have t1 : (x == 1) = false := by rw [beq_eq_false_iff_ne]; exact hx1
          have t2 : (x == 2) = false := by rw [beq_eq_false_iff_ne]; exact hx2
          have hsame := reserve_same s y
          obtain ⟨E', hE⟩ : ∃ E', (reserve s y).2.1 = E' := ⟨_, rfl⟩
          obtain ⟨s2, hs2⟩ : ∃ s2, (reserve s y).2.2 = s2 := ⟨_, rfl⟩
          have E5 : Hid (s2.r ≤ k + 1) := Lib.hid (by rw [← hs2]; have := hsame.2.2; omega)
          obtain ⟨P', hP⟩ : ∃ P', (reserve s y).1 = P' := ⟨_, rfl⟩
          have HM : Hid (∀ t' w', Both w q h bb #[.int .i64 x, .int .i64 y, .slice A lf.length c] s t' w' → Calls Try.prog 16 #[.pointer (some ⟨q, 0, none⟩), .int .i64 y] w' fun e w2 => e = .returned (.tuple #[.int .i64 P', .int .i64 E']) ∧ Both w q h bb #[.int .i64 x, .int .i64 y, .slice A lf.length c] s2 t' w2) :=
            Lib.hid fun t' w' b => by have := both_reserve_a b y hsr; rwa [hE, hs2, hP] at this
          have HR : Hid (∀ s' w', Both w q h bb #[.int .i64 x, .int .i64 y, .slice A lf.length c] s' s w' → Calls Try.prog 17 #[.pointer (some ⟨h, 0, none⟩), .int .i64 y] w' fun e w2 => e = .returned (.tuple #[.int .i64 P', .int .i64 E']) ∧ Both w q h bb #[.int .i64 x, .int .i64 y, .slice A lf.length c] s' s2 w2) :=
            Lib.hid fun s' w' b => by have := both_reserve_r G4.out b y hsr; rwa [hE, hs2, hP] at this
          clear hx1 hx2 hE hs2 hsame hP
          go_wp2_with fail
          refine (HM.out _ _ st).mono ?_; rintro e w5 ⟨rfl, hst⟩
          have d1 := hst.cell 1
          simp only [List.getElem?_toArray, List.getElem?_cons_succ, List.getElem?_cons_zero] at d1
          have ST := Lib.hid hst
          have HBB := Lib.hid hbb
          clear hst st hbb c1 c2 c3
          go_wp2_with fail
          refine (HR.out _ _ ST.out).mono ?_; rintro e w6 ⟨rfl, hst⟩
          have ST := Lib.hid hst
          have tE : ((E' : Int) != E') = false := by simp
          have tP : ((P' : Int) != P') = false := by simp
          clear hst d1 HM HR t1 t2
          -- what both have now
          obtain ⟨own, lv, tv, hA, hR, h1', h2', h3', hb'⟩ := ST.out.two
          have hgd := ST.out.good
          obtain ⟨la, lcap, rfl, _, _⟩ := hR.list.shape
          obtain ⟨l, hl⟩ : ∃ l, s2.l = l := ⟨_, rfl⟩
          obtain ⟨n, hn⟩ : ∃ n, l.length = n := ⟨_, rfl⟩
          obtain ⟨tl, htl⟩ : ∃ tl, total l = tl := ⟨_, rfl⟩
          have hll : n ≤ 64 := by have := length_le_total hgd.ok; have := hgd.sum; have := hgd.lim; have := hgd.S2; rw [hl] at *; omega
          have htb : tl ≤ 64 := by have := hgd.sum; have := hgd.lim; have := hgd.S2; rw [hl] at *; omega
          have hTW : Two w q h s2 s2 w6 := ⟨own, _, tv, hA, hR, h1', h2', h3', hb'⟩
          have hLS : Seq Elem.pairs w6 (.slice la n lcap) l := by have := hR.list.seq; rwa [hl, hn] at this
          have HCL : Hid (∀ w', Below w6.heap.size w6 w' → w'.cell? ⟨h, 3, none⟩ = some (.slice la n lcap) ∧ w'.cell? ⟨h, 2, none⟩ = some (.int .i64 (s2.r : Int))) := Lib.hid fun w' hb => by
            have r2 := hR.grew hb
            exact ⟨by have := r2.c3; rwa [hl, hn] at this, r2.c2⟩
          have HRG : Hid (∀ w', Below w6.heap.size w6 w' → Calls Try.prog 19 #[.pointer (some ⟨q, 0, none⟩)] w' fun e w2 => ∃ va vc, e = .returned (.slice va n vc) ∧ Seq Elem.pairs w2 (.slice va n vc) l ∧ Below w6.heap.size w6 w2) := Lib.hid fun w' hb => by
            refine (law_regions (hA.grew hb)).mono ?_
            rintro e w2 ⟨v, rfl, hv, _, hb2⟩
            obtain ⟨va, vc, rfl, _, _⟩ := hv.shape
            rw [hl, hn]
            exact ⟨va, vc, rfl, by have := hv.seq; rwa [hl, hn] at this, hb.trans (hb2.mono hb.size)⟩
          have HSM : Hid (∀ w' va vc, Seq Elem.pairs w' (.slice va n vc) l → Below w6.heap.size w6 w' → Calls Try.prog 18 #[.slice va n vc, .slice la n lcap] w' fun e w2 => e = .returned (.bool true) ∧ Below w6.heap.size w6 w2) := Lib.hid fun w' va vc hv hb =>
            (same_any w' va la vc lcap n l hn hv (hLS.below (Nat.le_refl _) hb) (by omega)).mono fun e w2 x => ⟨x.1, hb.trans (x.2.mono hb.size)⟩
          have HGA : Hid (∀ w', Below w6.heap.size w6 w' → Calls Try.prog 20 #[.pointer (some ⟨q, 0, none⟩)] w' fun e w2 => e = .returned (.int .i64 (tl : Int)) ∧ Below w6.heap.size w6 w2) := Lib.hid fun w' hb =>
            (given_any (hA.grew hb)).mono fun e w2 x => ⟨by rw [x.1, hl, htl], hb.trans (x.2.mono hb.size)⟩
          have HGR : Hid (∀ w', Below w6.heap.size w6 w' → Calls Try.prog 21 #[.pointer (some ⟨h, 0, none⟩)] w' fun e w2 => e = .returned (.int .i64 (tl : Int)) ∧ Below w6.heap.size w6 w2) := Lib.hid fun w' hb =>
            (ref_given (hR.grew hb) (by rw [hl, htl]; omega) (by rw [hl, hn]; omega)).mono fun e w2 x => ⟨by rw [x.1, hl, htl], hb.trans (x.2.mono hb.size)⟩
          have HRF : Hid (∀ w', Below w6.heap.size w6 w' → Calls Try.prog 22 #[.pointer (some ⟨q, 0, none⟩)] w' fun e w2 => e = .returned (.int .i64 (s2.r : Int)) ∧ Below w6.heap.size w6 w2) := Lib.hid fun w' hb =>
            (refused_any (hA.grew hb)).mono fun e w2 x => ⟨x.1, by rw [← x.2]; exact hb⟩
          have TW := Lib.hid hTW
          obtain ⟨d3, d2⟩ := HCL.out _ (Below.refl _ _)
          have tT : ((tl : Int) != (tl : Int)) = false := by simp
          obtain ⟨rr, hrr⟩ : ∃ rr, s2.r = rr := ⟨_, rfl⟩
          rw [hrr] at HCL HRF d2
          have tR : ((rr : Int) != (rr : Int)) = false := by simp
          have GR : Hid (Below w6.heap.size w6 w6) := Lib.hid (Below.refl _ _)
          clear hA hR h1' h2' h3' hb' hgd hl hn htl hTW hLS hrr ST
          go_wp2_with fail
          go_region_held3 (fun w' => w'.cell? ⟨h, 3, none⟩ = some (.slice la n lcap) ∧ w'.cell? ⟨h, 2, none⟩ = some (.int .i64 (rr : Int))) (first | go_keep | exact ⟨d3, d2⟩)
            (first
              | (go_at_call 19; (first | (with_reducible refine (HRG.out _ GR.out.drew).mono ?_) | (with_reducible refine (HRG.out _ GR.out).mono ?_)); rintro e w8 ⟨va, vc, rfl, hv8, hst⟩; have d3 := (HCL.out _ hst).1; have d2 := (HCL.out _ hst).2; have V8 := Lib.hid hv8; have GR := Lib.hid hst; clear hst hv8)
              | (go_at_call 18; (with_reducible refine (HSM.out _ va vc V8.out GR.out).mono ?_); rintro e w9 ⟨rfl, hst⟩; have d3 := (HCL.out _ hst).1; have d2 := (HCL.out _ hst).2; have GR := Lib.hid hst; clear hst)
              | (go_at_call 20; (with_reducible refine (HGA.out _ GR.out).mono ?_); rintro e w10 ⟨rfl, hst⟩; have d3 := (HCL.out _ hst).1; have d2 := (HCL.out _ hst).2; have GR := Lib.hid hst; clear hst)
              | (go_at_call 21; (with_reducible refine (HGR.out _ GR.out).mono ?_); rintro e w11 ⟨rfl, hst⟩; have d3 := (HCL.out _ hst).1; have d2 := (HCL.out _ hst).2; have GR := Lib.hid hst; clear hst)
              | (go_at_call 22; (with_reducible refine (HRF.out _ GR.out).mono ?_); rintro e w12 ⟨rfl, hst⟩; have d3 := (HCL.out _ hst).1; have d2 := (HCL.out _ hst).2; have GR := Lib.hid hst; clear hst))
          clear d3 d2 tT tR HRG HSM HGA HGR HRF
          go_wp2
          go_roundw
          case rel => exact ⟨k + 1, by omega, by go_num, s2, E5.out, TW.out.grew GR.out⟩
          case measure => simp [intOf]; omega
    · obtain rfl : k = len := by omega
      go_wp2
      go_ret
      exact ⟨rfl, S4.out.below⟩
theorem walk_none (w : World) (S lim : Int) (hS : (Lit.int .i64 S).wf = true) (hN : S < 1 ∨ 64 < S ∨ lim < 0 ∨ S < lim) (a : Option Addr) (len cap : Nat) (hl : len ≤ 100) :
    Calls Try.prog 3 #[.int .i64 S, .int .i64 lim, .slice a len cap] w fun e w' => e = .returned (.bool true) ∧ Below w.heap.size w w' := by
  have t0 : decide ((100 : Int) < (len : Int)) = false := decide_eq_false (by omega)
  have HN1 := Lib.hid (fun w => arena_new_bad S lim hS hN w)
  have HN2 := Lib.hid (fun w => ref_new_bad S lim hN w)
  clear hN
  go_enter Try.func3, Try.ntmps3
  go_wp2_with fail
  refine (alive_any _).mono ?_; rintro e w1 ⟨rfl, hb⟩
  have B1 := Lib.hid hb
  clear hb
  go_wp2_with fail
  refine (HN1.out _).mono ?_; rintro e w2 ⟨rfl, hu⟩
  have B2 := Lib.hid (B1.out.trans (below_false hu B1.out.size))
  clear hu
  go_wp2_with fail
  refine (HN2.out _).mono ?_; rintro e w' ⟨rfl, rfl⟩
  go_wp2
  go_ret
  exact ⟨rfl, B2.out⟩
theorem walk_long (w : World) (S lim : Int) (a : Option Addr) (len cap : Nat) (hl : 100 < len) :
    Calls Try.prog 3 #[.int .i64 S, .int .i64 lim, .slice a len cap] w fun e w' => e = .returned (.bool true) ∧ Below w.heap.size w w' := by
  have t0 : decide ((100 : Int) < (len : Int)) = true := decide_eq_true (by omega)
  go_enter Try.func3, Try.ntmps3
  go_wp2_with fail
  refine (alive_any _).mono ?_; rintro e w1 ⟨rfl, hb⟩
  have B1 := Lib.hid hb
  clear hb
  go_wp2
  go_ret
  exact ⟨rfl, B1.out⟩
theorem walk (w : World) (S : Int) (hS : (Lit.int .i64 S).wf = true) (lim : Int) (hL : (Lit.int .i64 lim).wf = true) {A : Option Addr} {n cap : Nat} (len : Nat) (F : Nat → Nat → Value) (h : Recs w (.slice A n cap) [.num .i64, .num .i64, .flags] len F) :
    Calls Try.prog 3 #[.int .i64 S, .int .i64 lim, .slice A n cap] w fun e w' => e = .returned (.bool true) ∧ Below w.heap.size w w' := by
  obtain ⟨rfl, _, _⟩ := h.len
  by_cases hl : n ≤ 100
  · by_cases hN : S < 1 ∨ 64 < S ∨ lim < 0 ∨ S < lim
    · exact walk_none w S lim hS hN A n cap hl
    · obtain ⟨S, rfl⟩ := Int.eq_ofNat_of_zero_le (show 0 ≤ S by omega)
      obtain ⟨lim, rfl⟩ := Int.eq_ofNat_of_zero_le (show 0 ≤ lim by omega)
      exact walk_short w S lim (by omega) (by omega) (by omega) A n cap F h hl
  · exact walk_long w S lim A n cap (by omega)
end Go.Proofs.Ytnkahcfkbpbhiaa.arenaActs
