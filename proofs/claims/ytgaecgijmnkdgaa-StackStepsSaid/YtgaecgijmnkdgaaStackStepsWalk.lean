/- The law StackSteps, walked (written by gen13.py). -/
import Derived.Test.YtgaecgijmnkdgaaAlive13
import Derived.Test.YtgaecgijmnkdgaaBytesIn
import Derived.Test.YtgaecgijmnkdgaaSame11
import Derived.Test.YtgaecgijmnkdgaaAt13
import Derived.Test.YtgaecgijmnkdgaaMap13
namespace Go.Proofs.Ytgaecgijmnkdgaa.stackSteps
open Go.RowKit StackMath
set_option linter.unusedVariables false

open Go.Maps
def StR (w : World) (s b n : Nat) (i : Value) (wr : World) : Prop :=
  ∃ (j : Nat) (S : SS), j ≤ n ∧ i = .int .i64 (j : Int) ∧ FS w s S [] wr ∧ S.n ≤ 2 * j ∧ BM wr b S.L
def DrR (w : World) (s b g : Nat) (wr : World) : Prop :=
  ∃ S : SS, S.L.length = g ∧ FS w s S [] wr ∧ S.n + 2 * g ≤ 500 ∧ BM wr b S.L
set_option maxRecDepth 100000 in
set_option maxHeartbeats 4000000 in
theorem walk_short (w : World) {a : Option Addr} {n cap : Nat} (L : List Nat) (hB : BytesIn w a n L) (hl : n ≤ 64) :
    Calls Try.prog 5 #[.slice a n cap] w fun e w' => e = .returned (.bool true) ∧ Below w.heap.size w w' := by
  have HB := Lib.hid hB
  have t0 : decide ((64 : Int) < (n : Int)) = false := decide_eq_false (by omega)
  have ZS := zero_stack
  have hmm := @run_makeMap Try.prog
  clear hB
  go_enter Try.func5, Try.ntmps5
  go_wp2_with fail
  refine (alive_any w).mono ?_; rintro e w1 ⟨rfl, hb⟩
  obtain ⟨W, hW, hf, hb2, hs2⟩ := fs_new (w := w) hb
  obtain ⟨s, hss⟩ : ∃ z, w1.heap.size = z := ⟨_, rfl⟩
  rw [hss] at hf hs2
  obtain ⟨b, hbm⟩ : ∃ z, W.heap.size = z := ⟨_, rfl⟩
  have hm0 : ∀ o, (W.alloc o).ownsMap Try.prog 3 (plainElem Try.prog 4) b 0 (.map [] : DataW Unit) → BM (W.alloc o) b [] := fun o h => ⟨_, h, bd_nil⟩
  have hFS := hf.alloc
  have HFS := Lib.hid hFS; have HM0 := Lib.hid hm0
  have NE := Lib.hid (show b ≠ s ∧ w.heap.size ≤ b by have := hf.below.size; omega)
  have HBM := Lib.hid hbm
  have HS2 := Lib.hid hs2
  clear hf hb2 hb hFS hm0 hs2
  go_wp2
  have I0 := Lib.hid (show StR w s b n (.int .i64 0) _ from ⟨0, s0, Nat.zero_le _, rfl, HFS.out _, by decide, HM0.out _ (by rw [← HBM.out]; exact World.ownsMap_made _ _ _ _)⟩)
  go_loopw [24] (fun i wr => StR w s b n i wr) (fun i _ => n - (intOf i).toNat)
  case atStart => exact I0.out
  case round =>
    clear I0 hW hmm hbm HFS HM0 HBM hss HS2
    obtain ⟨j, S, hj, rfl, hf, hn, hm⟩ := hrel
    by_cases hjn : j < n
    · obtain ⟨b2, off2, ea, c0⟩ := HB.out.cell wr hf.below j hjn
      have hx8 := HB.out.le j hjn
      obtain ⟨x, hx⟩ : ∃ x, L.getD j 0 = x := ⟨_, rfl⟩
      rw [hx] at c0 hx8
      subst ea
      obtain ⟨p, hp⟩ : ∃ p, x % 64 = p := ⟨_, rfl⟩
      obtain ⟨em1, em2⟩ := mod_of hp
      have em1 : Int.tmod (x : Int) 64 = (p : Int) := em1
      have em2 : (x : Int) % 64 = (p : Int) := em2
      have hp64 : p < 64 := by omega
      have q2 : decide ((j : Int) < (n : Int)) = true := decide_eq_true (by omega)
      have q2' : decide (j < n) = true := decide_eq_true hjn
      have q3 : (0 : Int) ≤ (j : Int) := by omega
      have q4 : (j : Int) < (n : Int) := by omega
      have HN := Lib.hid hn
      obtain ⟨D, hD, hbd⟩ := hm
      have hAT := hbd.att p
      have HKEY := Lib.hid (keyOf_int_mk (P := Try.prog) Try.underlying3 (q := .i64) (a := (p : Int)) (by simp [Lit.wf, IntKind.min, IntKind.max, IntKind.signed, IntKind.bits]; omega))
      have F := Lib.hid hf; have MD := Lib.hid hD; have BDH := Lib.hid hbd
      clear hf hn hp hD hbd
      by_cases hin : p ∈ S.L
      · rw [decide_eq_true hin] at hAT
        have HAT := Lib.hid hAT
        have NX := Lib.hid (show StR w s b n (.int .i64 ((j + 1 : Nat) : Int)) wr from ⟨j + 1, S, by omega, rfl, F.out, by have := HN.out; omega, ⟨D, MD.out, BDH.out⟩⟩)
        rw [show ((j + 1 : Nat) : Int) = (j : Int) + 1 by omega] at NX
        clear hin hAT
        go_wp2_with (at_lookup; refine wpList_lookup_own_bool _ rfl (.tmp 31) (.tmp 32) 60 rfl 3 4 keyI Try.underlying60 Try.underlying4 (zeroB13 _) b _ D rfl MD.out _ (.int .i64 (p : Int)) rfl HKEY.out true HAT.out ?_)
        go_roundw
        case rel => exact NX.out
        case measure => simp [intOf]; omega
      · rw [decide_eq_false hin] at hAT
        have HAT := Lib.hid hAT; have HIN := Lib.hid hin
        have hs64 := F.out.g.len
        have hmx : S.L.length < maxLen := by unfold maxLen; omega
        have HMX := Lib.hid hmx
        obtain ⟨n0, hn0⟩ : ∃ z, S.n = z := ⟨_, rfl⟩
        have HN0 := Lib.hid hn0
        have hn0b : n0 ≤ 1000 := by have := HN.out; omega
        clear hin hAT hs64 hmx hn0
        go_wp2_with (first
          | (at_lookup; refine wpList_lookup_own_bool _ rfl (.tmp 31) (.tmp 32) 60 rfl 3 4 keyI Try.underlying60 Try.underlying4 (zeroB13 _) b _ D rfl MD.out _ (.int .i64 (p : Int)) rfl HKEY.out false HAT.out ?_)
          | (at_mapUpdate; refine wpList_mapUpdate_in _ rfl _ _ _ 60 rfl 3 4 keyI Try.underlying60 _ b _ D rfl MD.out HMX.out _ _ _ rfl rfl HKEY.out _ [] (plainElem_bool Try.underlying4 true) ?_; intro w9 hown1 hturn1; have M9 := Lib.hid (show BM w9 b (p :: S.L) from ⟨_, hown1, BDH.out.put (MD.out.tidy keyI) HIN.out⟩); have F9 := Lib.hid (F.out.upd (upd_turned hturn1) (fun k hk => by rw [hk]; exact ⟨NE.out.2, NE.out.1, fun x hx => by cases hx⟩)); clear hown1 hturn1))
        refine (fs_push F9.out hp64).mono ?_; rintro e w5 ⟨m, rfl, hf, hmlo, hbl⟩
        have A0 := Lib.hid (show AL w s S m (mPush p) 0 w5 from hf)
        have M5 := Lib.hid (M9.out.grew hbl)
        have MB := Lib.hid (show b ≠ m by have := M9.out.lt; omega)
        clear hf hbl hmlo
        go_wp2_with fail
        refine (cellOf_any w5 s 0).mono ?_; rintro e w2 ⟨rfl, k⟩; obtain rfl := k.symm; clear k
        have AK := fun t g hg => fs_asked A0.out (show (aloneE S (mPush p) 0).1.n ≤ _ by show S.n ≤ _; have := HN0.out; omega) t g hg
        rw [show (aloneE S (mPush p) 0).1.n = n0 from HN0.out] at AK
        have AK := Lib.hid AK
        go_wp2_with fail
        refine (AK.out _ _ rfl).mono ?_; rintro e w6 ⟨rfl, hf, hbl⟩
        have A0 := Lib.hid (show AL w s S m (mPush p) 0 w6 from hf)
        have M6 := Lib.hid (M5.out.grew hbl)
        have HS6 := Lib.hid (show S.n ≤ 1000000 by have := HN0.out; omega)
        have E := Lib.hid (push_ends S p)
        clear hf hbl AK
        go_wp2_with fail
        refine (al_stepB A0.out HS6.out (by decide) (b := true) (by rw [E.out.no 0 (by decide)]; rfl)).mono ?_; rintro e w7 ⟨rfl, hf, hst⟩
        have A1 := Lib.hid hf
        have Mw7 := Lib.hid (M6.out.upd hst.upd (by rintro (e | ⟨c, e⟩); exact MB.out e; exact NE.out.1 e.1))
        clear hf hst
        go_wp2_with fail
        refine (al_stepB A1.out HS6.out (by decide) (b := true) (by rw [E.out.no 1 (by decide)]; rfl)).mono ?_; rintro e w8 ⟨rfl, hf, hst⟩
        have A2 := Lib.hid hf
        have Mw8 := Lib.hid (Mw7.out.upd hst.upd (by rintro (e | ⟨c, e⟩); exact MB.out e; exact NE.out.1 e.1))
        clear hf hst
        go_wp2_with fail
        refine (al_stepB A2.out HS6.out (by decide) (b := false) (by rw [E.out.yes]; rfl)).mono ?_; rintro e w10 ⟨rfl, hf, hst⟩
        have A3 := Lib.hid hf
        have Mw10 := Lib.hid (Mw8.out.upd hst.upd (by rintro (e | ⟨c, e⟩); exact MB.out e; exact NE.out.1 e.1))
        clear hf hst
        have f10 : FS w s (pushS S p) [] w10 := by have : FS w s (aloneE S (mPush p) (2 + 1)).1 [] w10 := A3.out.forget; rw [E.out.stay, (push_two S p).2.2.1] at this; exact this
        obtain ⟨T, hT⟩ : ∃ z, pushS S p = z := ⟨_, rfl⟩
        have hTn : T.n = n0 + 2 := by rw [← hT, ← HN0.out]; unfold pushS; rw [if_neg HIN.out]
        have hTL : T.L = p :: S.L := by rw [← hT]; unfold pushS; rw [if_neg HIN.out]
        rw [hT] at f10
        have F10 := Lib.hid f10; have HT := Lib.hid (And.intro hTn hTL)
        clear f10 hT hTn hTL
        go_wp2_with fail
        refine (cellOf_any w10 s 0).mono ?_; rintro e w2 ⟨rfl, k⟩; obtain rfl := k.symm; clear k
        have AK := fun t g hg => fs_asked F10.out (show T.n ≤ _ by have := HT.out.1; omega) t g hg
        obtain ⟨n2, hn2⟩ : ∃ z, T.n = z := ⟨_, rfl⟩
        rw [hn2] at AK
        have AK := Lib.hid AK
        have tn : ((n2 : Int) != (n0 : Int) + 2) = false := by have := HT.out.1; rw [bne_eq_false_iff_eq]; omega
        clear hn2
        go_wp2_with fail
        refine (AK.out _ _ rfl).mono ?_; rintro e w11 ⟨rfl, hf, hbl⟩
        have AA := Lib.hid (fs_all hf (show T.n ≤ _ by have := HT.out.1; omega))
        have M11 := Lib.hid (Mw10.out.grew hbl)
        clear hf hbl AK
        go_wp2_with fail
        refine AA.out.mono ?_; rintro e w12 ⟨a12, c12, rfl, hq, hf, _, hbl⟩
        obtain ⟨b3, off3, y, ea, hy, _, d0⟩ := Vec.at13 hq (t := 0) (by rw [toI_len, HT.out.2]; exact Nat.succ_pos _)
        subst ea
        have hyp : y = (p : Int) := by rw [HT.out.2] at hy; unfold toI at hy; simp at hy; exact hy.symm
        subst hyp
        have d0 : w12.cell? ⟨b3, off3, none⟩ = some (.int .i64 (p : Int)) := by simpa using d0
        obtain ⟨tl, htl⟩ : ∃ z, T.L.length = z := ⟨_, rfl⟩
        have htl0 : 0 < tl := by rw [← htl, HT.out.2]; exact Nat.succ_pos _
        have htl1 : (0 : Int) < (tl : Int) := by omega
        rw [htl]
        have pp : ((p : Int) != (p : Int)) = false := by simp
        have NX := Lib.hid (show StR w s b n (.int .i64 ((j + 1 : Nat) : Int)) w12 from ⟨j + 1, T, by omega, rfl, hf, by have := HT.out.1; have := HN.out; have := HN0.out; omega, by rw [HT.out.2]; exact M11.out.grew hbl⟩)
        rw [show ((j + 1 : Nat) : Int) = (j : Int) + 1 by omega] at NX
        clear hq hf hbl hy AA htl
        go_wp2
        go_roundw
        case rel => exact NX.out
        case measure => simp [intOf]; omega
    · obtain rfl : j = n := by omega
      have q2 : decide ((j : Int) < (j : Int)) = false := decide_eq_false (by omega)
      have hs64 := hf.g.len
      obtain ⟨g0, hg0⟩ : ∃ z, S.L.length = z := ⟨_, rfl⟩
      have I1 := Lib.hid (show DrR w s b g0 wr from ⟨S, hg0, hf, by omega, hm⟩)
      clear hf hn hm hj hs64 hg0 ZS
      go_wp2
      go_loopg [] g0 (fun g wr => DrR w s b g wr)
      case atStart => exact I1.out
      case round =>
        clear I1
        obtain ⟨S, hg, hf, hn, D, hD, hbd⟩ := hrel
        cases hL : S.L with
        | nil =>
          have hsz : Maps.size D = 0 := by rw [hbd.size, hL]; rfl
          have MD := Lib.hid hD; have HSZ := Lib.hid hsz
          have P := Lib.hid (fs_pop hf)
          have HS6 := Lib.hid (show S.n ≤ 1000000 by omega)
          have E := Lib.hid (pop_ends0 hL)
          have PN := Lib.hid (pop_none hL)
          clear hf hD hbd hsz hg hn hL
          go_wp2_with (at_len; refine wpList_len_own _ rfl (.tmp 72) 60 rfl 3 4 Try.underlying60 _ b _ D rfl MD.out ?_; rw [HSZ.out])
          refine P.out.mono ?_; rintro e w5 ⟨m, rfl, hf, _, _⟩
          have A0 := Lib.hid (show AL w s S m mPop 0 w5 from hf)
          clear hf
          go_wp2_with fail
          refine (al_stepB A0.out HS6.out (by decide) (b := true) (by rw [E.out.no 0 (by decide)]; rfl)).mono ?_; rintro e w6 ⟨rfl, hf, _⟩
          have A1 := Lib.hid hf
          clear hf
          go_wp2_with fail
          refine (al_stepB A1.out HS6.out (by decide) (b := false) (by rw [E.out.yes]; rfl)).mono ?_; rintro e w7 ⟨rfl, hf, _⟩
          have hf1 : AL w s S m mPop 1 w7 := by have : AL w s S m mPop (1 + 1) w7 := hf; unfold AL at this; rw [E.out.stay] at this; exact this
          have DN := fs_done hf1 (i := 0) rfl
          rw [PN.out.2.2.1] at DN
          have PL := fs_place hf1 (i := 0) rfl
          rw [PN.out.2.2.2] at PL
          have DN := Lib.hid DN; have PL := Lib.hid PL; have B7 := Lib.hid hf1.below
          clear hf hf1
          go_wp2_with fail
          refine DN.out.mono ?_; rintro e w8 ⟨rfl, k⟩; obtain rfl := k.symm; clear k
          go_wp2_with fail
          refine PL.out.mono ?_; rintro e w8 ⟨rfl, k⟩; obtain rfl := k.symm; clear k
          go_wp2
          go_ret
          exact ⟨rfl, B7.out⟩
        | cons q T =>
          obtain ⟨k, hk⟩ : ∃ z, T.length = z := ⟨_, rfl⟩
          have hsz : Maps.size D = k + 1 := by rw [hbd.size, hL, List.length_cons, hk]
          have MD := Lib.hid hD; have HSZ := Lib.hid hsz; have BDH := Lib.hid hbd
          have hAT := hbd.att q
          rw [hL, decide_eq_true (List.mem_cons_self ..)] at hAT
          have HAT := Lib.hid hAT
          have hq64 : q < 64 := hf.g.lt q (by rw [hL]; exact List.mem_cons_self ..)
          have HKEY := Lib.hid (keyOf_int_mk (P := Try.prog) Try.underlying3 (q := .i64) (a := (q : Int)) (by simp [Lit.wf, IntKind.min, IntKind.max, IntKind.signed, IntKind.bits]; omega))
          have NQ := Lib.hid (show q ∉ T by have := hf.g.nd; rw [hL] at this; exact (List.nodup_cons.1 this).1)
          have hgk : k + 1 = S.L.length := by rw [hL, List.length_cons, hk]
          have P := Lib.hid (fs_pop hf)
          have HS6 := Lib.hid (show S.n ≤ 1000000 by omega)
          have E := Lib.hid (pop_ends hL)
          have PT := Lib.hid (pop_two hL).2.2
          obtain ⟨n0, hn0⟩ : ∃ z, S.n = z := ⟨_, rfl⟩
          have HN0 := Lib.hid (And.intro hn0 (show n0 + 2 * (k + 1) ≤ 500 by omega))
          have hn0b : n0 ≤ 1000 := by omega
          have HL := Lib.hid hL; have HK := Lib.hid hk; have HGK := Lib.hid (hgk.trans hg)
          obtain ⟨k1, hk1⟩ : ∃ z, k + 1 = z := ⟨_, rfl⟩
          rw [hk1] at HSZ HGK
          have tk : decide ((0 : Int) < (k1 : Int)) = true := decide_eq_true (by omega)
          have tk' : decide (0 < k1) = true := decide_eq_true (by omega)
          have HK1 := Lib.hid hk1
          clear hf hD hbd hsz hg hn hL hAT hk hgk hn0 hk1
          go_wp2_with (at_len; refine wpList_len_own _ rfl (.tmp 72) 60 rfl 3 4 Try.underlying60 _ b _ D rfl MD.out ?_; rw [HSZ.out])
          refine P.out.mono ?_; rintro e w5 ⟨m, rfl, hf, hmlo, hbl⟩
          have A0 := Lib.hid (show AL w s S m mPop 0 w5 from hf)
          have M5 := Lib.hid (ownsMap_upd MD.out (updFalse_of hbl) id)
          have MB := Lib.hid (show b ≠ m by have := MD.out.lt; omega)
          clear hf hbl hmlo
          go_wp2_with fail
          refine (cellOf_any w5 s 0).mono ?_; rintro e w2 ⟨rfl, k⟩; obtain rfl := k.symm; clear k
          have AK := fun t g hg => fs_asked A0.out (show (aloneE S mPop 0).1.n ≤ _ by show S.n ≤ _; have := HN0.out.1; omega) t g hg
          rw [show (aloneE S mPop 0).1.n = n0 from HN0.out.1] at AK
          have AK := Lib.hid AK
          go_wp2_with fail
          refine (AK.out _ _ rfl).mono ?_; rintro e w6 ⟨rfl, hf, hbl⟩
          have A0 := Lib.hid (show AL w s S m mPop 0 w6 from hf)
          have M6 := Lib.hid (ownsMap_upd M5.out (updFalse_of hbl) id)
          clear hf hbl AK
          go_wp2_with fail
          refine (al_stepB A0.out HS6.out (by decide) (b := true) (by rw [E.out.no 0 (by decide)]; rfl)).mono ?_; rintro e w7 ⟨rfl, hf, hst⟩
          have A1 := Lib.hid hf
          have Mw7 := Lib.hid (ownsMap_upd M6.out hst.upd (by rintro (e | ⟨c, e⟩); exact MB.out e; exact NE.out.1 e.1))
          clear hf hst
          go_wp2_with fail
          refine (al_stepB A1.out HS6.out (by decide) (b := true) (by rw [E.out.no 1 (by decide)]; rfl)).mono ?_; rintro e w8 ⟨rfl, hf, hst⟩
          have A2 := Lib.hid hf
          have Mw8 := Lib.hid (ownsMap_upd Mw7.out hst.upd (by rintro (e | ⟨c, e⟩); exact MB.out e; exact NE.out.1 e.1))
          clear hf hst
          go_wp2_with fail
          refine (al_stepB A2.out HS6.out (by decide) (b := false) (by rw [E.out.yes]; rfl)).mono ?_; rintro e w10 ⟨rfl, hf, hst⟩
          have A3 := Lib.hid hf
          have Mw10 := Lib.hid (ownsMap_upd Mw8.out hst.upd (by rintro (e | ⟨c, e⟩); exact MB.out e; exact NE.out.1 e.1))
          clear hf hst
          have a2 : AL w s S m mPop 2 w10 := by have : AL w s S m mPop (2 + 1) w10 := A3.out; unfold AL at this; rw [E.out.stay] at this; exact this
          have A10 := Lib.hid a2
          have hTn : (aloneE S mPop 2).1.n = n0 + 2 := by rw [PT.out.1, ← HN0.out.1]; unfold popS; rw [HL.out]; rfl
          have HTN := Lib.hid hTn
          clear a2 hTn
          go_wp2_with fail
          refine (cellOf_any w10 s 0).mono ?_; rintro e w2 ⟨rfl, k⟩; obtain rfl := k.symm; clear k
          have AK := fun t g hg => fs_asked A10.out (show (aloneE S mPop 2).1.n ≤ _ by rw [HTN.out]; omega) t g hg
          obtain ⟨n2, hn2⟩ : ∃ z, (aloneE S mPop 2).1.n = z := ⟨_, rfl⟩
          rw [hn2] at AK
          have AK := Lib.hid AK
          have tn : ((n2 : Int) != (n0 : Int) + 2) = false := by have := HTN.out; rw [bne_eq_false_iff_eq]; omega
          clear hn2
          go_wp2_with fail
          refine (AK.out _ _ rfl).mono ?_; rintro e w11 ⟨rfl, hf, hbl⟩
          have A11 := Lib.hid (show AL w s S m mPop 2 w11 from hf)
          have M11 := Lib.hid (ownsMap_upd Mw10.out (updFalse_of hbl) id)
          have PL := fs_place A11.out (i := 0) rfl
          rw [PT.out.2.2] at PL
          have PL := Lib.hid PL
          have lk11 := lookup_bool M11.out keyI Try.underlying60 Try.underlying4 (zeroB13 _) HKEY.out HAT.out
          clear hf hbl AK
          go_wp2_with fail
          refine PL.out.mono ?_; rintro e w12 ⟨rfl, k⟩; obtain rfl := k.symm; clear k
          go_wp2_with fail
          refine PL.out.mono ?_; rintro e w12 ⟨rfl, k⟩; obtain rfl := k.symm; clear k
          go_wp2_with (at_delete; refine wpList_delete_own _ rfl (.tmp 109) (.tmp 111) 60 3 rfl 4 keyI Try.underlying60 _ b _ D rfl M11.out _ _ rfl HKEY.out ?_; intro w13 hown1 hturn1; have f13 := A11.out.upd (upd_turned hturn1) (fun k hk => by rw [hk]; exact ⟨NE.out.2, NE.out.1, fun x hx => by rw [List.mem_singleton.1 hx]; exact MB.out.symm⟩); have F13 := Lib.hid f13; have M13 := Lib.hid hown1; have T11 := Lib.hid (M11.out.tidy keyI); clear hown1 hturn1 f13)
          have hbd2 : BD (D.del (.int .i64 (q : Int))) T := (by have := BDH.out; rw [HL.out] at this; exact this : BD D (q :: T)).del T11.out NQ.out
          have NX := Lib.hid (show DrR w s b T.length w13 from ⟨popS S, by unfold popS; rw [HL.out]; rfl, by have := F13.out.forget; rw [PT.out.1] at this; exact this, by have := HN0.out; have := HK.out; have := (popS_n S).2; omega, by
            have e : (popS S).L = T := by unfold popS; rw [HL.out]; rfl
            rw [e]; exact ⟨_, ownsMap_tight M13.out (Nat.le_of_eq hbd2.size), hbd2⟩⟩)
          have hless : T.length < k1 := by rw [HK.out]; have := HK1.out; omega
          have HLESS := Lib.hid hless; have HG := Lib.hid HGK.out
          clear hbd2 hless
          go_roundg T.length
          case measure => have := HLESS.out; have := HG.out; omega
          case rel => exact NX.out
theorem walk (w : World) {a : Option Addr} {n cap : Nat} (l : List Int) (h : NumsAt w .u8 (.slice a n cap) l) :
    Calls Try.prog 5 #[.slice a n cap] w fun e w' => e = .returned (.bool true) ∧ Below w.heap.size w w' := by
  obtain ⟨L, hB⟩ := h.bytesIn
  by_cases hl : n ≤ 64
  · exact walk_short w L hB hl
  · have t0 : decide ((64 : Int) < (n : Int)) = true := decide_eq_true (by omega)
    have hm := hB.max
    clear hB h hl
    go_enter Try.func5, Try.ntmps5
    go_wp2_with fail
    refine (alive_any w).mono ?_; rintro e w1 ⟨rfl, hb⟩
    have B1 := Lib.hid hb
    clear hb
    go_wp2
    go_ret
    exact ⟨rfl, B1.out⟩
end Go.Proofs.Ytgaecgijmnkdgaa.stackSteps
