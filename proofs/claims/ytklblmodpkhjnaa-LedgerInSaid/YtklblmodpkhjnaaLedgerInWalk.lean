/- LedgerIn: the walk. (Written by genin15.py.) -/
import Derived.Test.YtklblmodpkhjnaaLedMath3
namespace Go.Proofs.Ytklblmodpkhjnaa.ledgerIn
open Go.RowKit LedMath
set_option linter.unusedVariables false

theorem set_b (L : List En) (x : Nat) (f : Bool) : (setE L x f).map En.b = L.map En.b := by
  unfold setE
  rw [List.map_map]
  exact List.map_congr_left fun e _ => by simp only [Function.comp]; split <;> rfl
theorem let_done {M : List En} (h : GoodL M) {e : En} (he : e ∈ M) : ∃ er M', let1 M e.a = (er, M') ∧ M'.map En.b = M.map En.b ∧ GoodL M' ∧ ∃ e', e' ∈ M' ∧ e'.b = e.b ∧ e'.h = false := by
  have hat := atL_of h he rfl
  unfold let1
  rw [hat]
  by_cases hh : e.h = true
  · refine ⟨_, _, if_pos hh, set_b M e.a false, h.set e.a false, putH false e, ?_, rfl, rfl⟩
    exact List.mem_map.2 ⟨e, he, by rw [if_pos rfl]⟩
  · exact ⟨_, _, if_neg hh, rfl, h, e, he, rfl, by simpa using hh⟩
def InR (w2 w4 : World) (lb : Nat) (T : Nat → Prop) (L : List En) (i : Value) (wr : World) : Prop :=
  ∃ j M, j ≤ L.length ∧ i = .int .i64 ((j : Nat) : Int) ∧ OL w2 lb T M wr ∧ M.map En.b = L.map En.b ∧ Upd T w4 wr
set_option maxRecDepth 100000 in
set_option maxHeartbeats 4000000 in
theorem walk_nat (w : World) {a : Option Addr} {n cap : Nat} (len : Nat) (F : Nat → Nat → Value) (h : Recs w (.slice a n cap) ActL15 len F) (o : Nat) (ho9 : o ≤ 65535) :
    Calls Try.prog 6 #[.slice a n cap, .int .u16 (o : Int)] w fun e w' => e = .returned (.bool true) ∧ Below w.heap.size w w' := by
  have w1 : IntKind.u64.wrap (o : Int) = (o : Int) := u64_in _ ⟨by omega, by omega⟩
  have AL := Lib.hid (alive_any w)
  have GR := Lib.hid (fun w' hw => great_any w h w' hw)
  have FI := Lib.hid (fun w' hw => filled_any w h w' hw)
  clear h
  go_enter Try.func6, Try.ntmps6
  go_wp2_with fail
  refine AL.out.mono ?_; rintro e w1 ⟨rfl, hb⟩
  have B1 := Lib.hid hb
  clear hb
  go_wp2_with fail
  refine (GR.out w1 B1.out).mono ?_; rintro e w2 ⟨gr, rfl, hb⟩
  have B2 := Lib.hid (below_then B1.out B1.out.size hb)
  clear hb
  cases gr
  rotate_left
  · go_wp2_with fail
    go_ret
    exact ⟨rfl, B2.out⟩
  go_wp2_with fail
  refine (FI.out w2 B2.out).mono ?_; rintro e w3 ⟨lb, L, rfl, ho⟩
  have O3 := Lib.hid ho
  clear ho AL GR FI
  have KA := Lib.hid (All_any w3 O3.out.led)
  go_wp2_with fail
  refine KA.out.mono ?_; rintro e w4 ⟨v, rfl, hv, hin, hb⟩
  obtain ⟨T, hT⟩ : ∃ T : Nat → Prop, T = fun k => (w2.heap.size ≤ k ∧ k < w3.heap.size) ∨ w4.heap.size ≤ k := ⟨_, rfl⟩
  have hsz4 := hb.size
  have hsz3 := O3.out.below.size
  have O4 := Lib.hid (show OL w2 lb T L w4 from (((O3.out.mono (T' := fun k => w2.heap.size ≤ k ∧ k < w3.heap.size) (fun k hk hk' => ⟨hk', hk⟩) fun k hk => hk.1).grew hb).mono (fun k _ hk => by rw [hT]; exact .inl hk) fun k hk => by rw [hT] at hk; omega))
  have TN : Hid (∀ k, In v k → ¬ T k) := Lib.hid fun k hk hk' => by
    have h1 := hin k hk
    have h2 := hv.lt hk
    rw [hT] at hk'
    omega
  have TH : Hid (∀ k, T k → w2.heap.size ≤ k) := Lib.hid fun k hk => by rw [hT] at hk; omega
  have TW : Hid (∀ k, w4.heap.size ≤ k → T k) := Lib.hid fun k hk => by rw [hT]; exact .inr hk
  obtain ⟨av, cv, ev, _, _⟩ := hv.slice'
  obtain ⟨N, hN⟩ : ∃ N, L.length = N := ⟨_, rfl⟩
  rw [List.length_map, hN] at ev
  subst ev
  have HN := Lib.hid hN
  have HV := Lib.hid hv.seq
  have hNb : N ≤ 1048576 := by rw [← hN]; exact O3.out.led.good.len
  have I0 := Lib.hid (show InR w2 w4 lb T L (.int .i64 0) w4 from ⟨0, L, Nat.zero_le _, rfl, O4.out, rfl, Upd.refl _ _⟩)
  clear hv hin hb hN KA O3 hT hsz4 hsz3
  go_wp2
  go_loopw [24] (fun i wr => InR w2 w4 lb T L i wr) (fun i _ => N - (intOf i).toNat)
  case atStart => exact I0.out
  case round =>
    clear I0
    obtain ⟨j, M, hj, rfl, ho, hM, hu⟩ := hrel
    rw [HN.out] at hj
    by_cases hjn : j < N
    · have t2 : decide (j < N) = true := decide_eq_true hjn
      have t2' : decide ((j : Int) < (N : Int)) = true := decide_eq_true (by omega)
      have hml : M.length = N := by have := congrArg List.length hM; rw [List.length_map, List.length_map, HN.out] at this; exact this
      obtain ⟨e, he⟩ : ∃ e, M[j]? = some e := ⟨_, List.getElem?_eq_getElem (by rw [hml]; exact hjn)⟩
      obtain ⟨b, off, ea', k0, k1, k2⟩ := (HV.out.upd hu TN.out).blk (i := j) (x := e.b) (by rw [← hM, List.getElem?_map, he]; rfl)
      subst ea'
      have q3 : (0 : Int) ≤ (j : Int) := by omega
      have q4 : (j : Int) < (N : Int) := by omega
      have hm := List.mem_of_getElem? he
      have G := ho.led.good
      have hz1 := G.lt hm
      obtain ⟨er0, M', hlet, hMb, G', e', hm', hb', hh'⟩ := let_done G hm
      obtain ⟨x, hx⟩ : ∃ x, e.a = x := ⟨_, rfl⟩
      obtain ⟨y, hy⟩ : ∃ y, e.n = y := ⟨_, rfl⟩
      obtain ⟨zz, hzz⟩ : ∃ zz, e.g = zz := ⟨_, rfl⟩
      obtain ⟨z, hz⟩ : ∃ z, e.z = z := ⟨_, rfl⟩
      have eb : e.b = (x, y, zz) := by unfold En.b; rw [hx, hy, hzz]
      have ea2 : e'.a = x := by have := congrArg Prod.fst (hb'.trans eb); exact this
      have en2 : e'.n = y := by have := congrArg (fun p => p.2.1) (hb'.trans eb); exact this
      have ez2 : e'.z = z := by rw [← hz]; unfold En.z En.t; rw [ea2, en2, hx, hy]
      have het : e.t = max y 1 := by rw [← hy]; rfl
      obtain ⟨d, hd0⟩ : ∃ d, o % e.t = d := ⟨_, rfl⟩
      have hdt : d < e.t := by rw [← hd0]; exact Nat.mod_lt _ (by rw [het]; omega)
      obtain ⟨s, hs⟩ : ∃ s, x + d = s := ⟨_, rfl⟩
      have ez : z = x + e.t := by rw [← hz, ← hx]; rfl
      have LD := Lib.hid hlet
      rw [hx] at LD
      have hin1 := inL_of G' hm' (x := s) (by rw [ea2]; omega) (by rw [ez2, ez]; omega)
      have I1 := Lib.hid (show toldE (inL M' s) = ((x, y, zz), 0) by rw [hin1]; unfold toldE; simp only [hh', hb', eb]; rfl)
      have AT0 : Hid (d = 0 → toldE (atL M' s) = ((x, y, zz), 0)) := Lib.hid fun h0 => by
        rw [atL_of G' hm' (x := s) (by rw [ea2]; omega)]; unfold toldE; simp only [hh', hb', eb]; rfl
      have AT1 : Hid (¬ d = 0 → toldE (atL M' s) = ((0, 0, 0), 5)) := Lib.hid fun h0 => by
        rw [atL_none.2 fun f hf hfs => ?_]
        · rfl
        · have h1 : e'.a < f.a := by rw [ea2, hfs]; omega
          have h2 := G'.order hm' hf h1
          rw [ez2, hfs, ez] at h2
          omega
      obtain ⟨⟨⟨g1, g2, g3⟩, ge⟩, hI2⟩ : ∃ A, toldE (inL M' z) = A := ⟨_, rfl⟩
      have G2 : Hid (ge = 0 → g1 = z) := Lib.hid fun h0 => by
        cases hf : inL M' z with
        | none => rw [hf] at hI2; unfold toldE at hI2; injection hI2 with _ h; omega
        | some f =>
          obtain ⟨f1, f2, f3⟩ := inL_some hf
          rw [hf] at hI2
          cases hfh : f.h with
          | true => simp only [toldE, hfh, if_true] at hI2; injection hI2 with _ h; omega
          | false =>
            simp only [toldE, hfh, Bool.false_eq_true, if_false] at hI2
            have h4 : f.a = g1 := by have := congrArg (fun p => p.1.1) hI2; exact this
            rcases Nat.lt_trichotomy f.a e'.a with h5 | h5 | h5
            · have := G'.order f1 hm' h5; have := e'.lt_z; omega
            · have := G'.eq f1 hm' h5; subst this; omega
            · have := G'.order hm' f1 h5; omega
      have I2 := Lib.hid hI2
      have MB := Lib.hid (hMb.trans hM)
      obtain ⟨T1, hT1⟩ : ∃ T1 : Nat → Prop, T1 = fun k => T k ∧ k < wr.heap.size := ⟨_, rfl⟩
      have O1 := Lib.hid (show OL w2 lb (fun k => T k ∧ k < wr.heap.size) M wr from ho.mono (fun k hk hk' => ⟨hk', hk⟩) fun k hk => TH.out k hk.1)
      have BX := Lib.hid (fun ob => (Below.refl wr.heap.size wr).alloc (Nat.le_refl _) ob)
      have BB := Lib.hid ((Blk.new wr 35 #[.int .u64 (x : Int), .int .u64 (y : Int), .int .u64 (zz : Int)]))
      have hw4 := hu.size
      have OZ : Hid ((∀ (w' : World) (W : World), OL w2 lb (Grown (fun k => T k ∧ k < wr.heap.size) (wr.alloc (.cells #[.int .u64 (x : Int), .int .u64 (y : Int), .int .u64 (zz : Int)] 35))) M' w' → OL w2 lb T M' (w'.alloc (.cells #[.int .u64 (g1 : Int), .int .u64 (g2 : Int), .int .u64 (g3 : Int)] 35))) ∧ ∀ (w5 w' : World), Upd T wr w5 → Below w5.heap.size w5 w' → Upd T w4 w') := Lib.hid ⟨fun w' W o' => (o'.mono (T' := T) (fun k _ hk => by
        rcases hk with hk | hk
        · exact hk.1
        · rw [World.size_alloc] at hk; exact TW.out k (by omega)) TH.out).grew ((Below.refl _ _).alloc (Nat.le_refl _) _), fun w5 w' u b => (hu.trans u).trans ((updFalse_of b).mono fun _ h => h.elim)⟩
      rw [show e.b.1 = x from hx] at k0
      rw [show e.b.2.1 = y from hy] at k1
      rw [show e.b.2.2 = zz from hzz] at k2
      rw [hz] at hz1
      have s1 : (x : Int) + (d : Int) = (s : Int) := by omega
      have s2 : IntKind.u64.wrap (s : Int) = (s : Int) := u64_in _ ⟨by omega, by omega⟩
      have s3 : IntKind.u64.wrap (z : Int) = (z : Int) := u64_in _ ⟨by omega, by omega⟩
      have s4 : IntKind.u64.wrap (d : Int) = (d : Int) := u64_in _ ⟨by omega, by omega⟩
      clear ho hM hu he hm G hlet hMb G' hm' hb' hh' hx hy hzz hz eb ea2 en2 ez2 hin1 hI2 hml hT1 hw4 hdt
      by_cases hn1 : (1 : Int) ≤ (y : Int)
      · have y0 : ¬ ((y : Int) = 0) := by omega
        rw [het] at ez
        have sz : (x : Int) + (y : Int) = (z : Int) := by omega
        have od : (o : Int) % (y : Int) = (d : Int) := by rw [← hd0, show e.t = y from by rw [het]; omega]; exact (Int.natCast_emod _ _).symm
        have od2 : Int.tmod (o : Int) (y : Int) = (d : Int) := by rw [← hd0, show e.t = y from by rw [het]; omega]; exact (Int.ofNat_tmod _ _).symm
        clear ez
        by_cases hd : d = 0
        · subst hd
          obtain rfl : x = s := by omega
          have A1 := Lib.hid (AT0.out rfl)
          clear hd0 het
          have KL := Lib.hid (let_one (O1.out.grew (BX.out (.cells #[.int .u64 (x : Int), .int .u64 (y : Int), .int .u64 (zz : Int)] 35))).led x (wr.heap.size + 1) (by simp))
          rw [LD.out] at KL
          go_wp2_with fail
          refine KL.out.mono ?_; rintro e1 w5 ⟨rfl, hh, hu⟩
          have O5 := Lib.hid ((O1.out.grew (BX.out (.cells #[.int .u64 (x : Int), .int .u64 (y : Int), .int .u64 (zz : Int)] 35))).next hh hu)
          have B7 := Lib.hid (BB.out.upd hu (fun hk => Nat.lt_irrefl _ hk.2))
          have U5 := Lib.hid (((updFalse_of (BX.out (.cells #[.int .u64 (x : Int), .int .u64 (y : Int), .int .u64 (zz : Int)] 35))).mono fun _ h => h.elim).step hu fun k hk => .inl hk.1)
          clear hh hu KL
          obtain ⟨c0, c1, c2⟩ := B7.out.c3
          have KI := In_any w5 O5.out.led (x := x)
          rw [I1.out] at KI
          unfold toldV blkV at KI
          have KI := Lib.hid KI
          go_wp2_with fail
          refine KI.out.mono ?_; rintro e1 w6 ⟨rfl, hb⟩
          have O6 := Lib.hid (O5.out.grew hb)
          have B7b := Lib.hid (B7.out.grew hb)
          have D6 := Lib.hid hb
          clear hb KI
          have BL6 := Lib.hid (fun ob => (Below.refl w6.heap.size w6).alloc (Nat.le_refl _) ob)
          have c0A : ∀ ob, (w6.alloc ob).cell? ⟨wr.heap.size, 0, none⟩ = some (.int .u64 (x : Int)) := fun ob => (B7b.out.alloc ob).c3.1
          have KT : Hid (∀ ob, Calls Try.prog 18 #[ptrV lb 0, .int .u64 (x : Int)] (w6.alloc ob) fun r w' => r = .returned (toldV ((x, y, zz), 0)) ∧ Below (w6.alloc ob).heap.size (w6.alloc ob) w') := Lib.hid fun ob => by
            have := At_any (w6.alloc ob) (O6.out.grew (BL6.out ob)).led (x := x)
            rw [A1.out] at this
            exact this
          unfold toldV blkV at KT
          go_wp2_with fail
          refine (KT.out _).mono ?_; rintro e1 w7 ⟨rfl, hb⟩
          have hb6 := below_then (BL6.out (.cells #[.int .u64 (x : Int), .int .u64 (y : Int), .int .u64 (zz : Int)] 35)) (BL6.out (.cells #[.int .u64 (x : Int), .int .u64 (y : Int), .int .u64 (zz : Int)] 35)).size hb
          have O7 := Lib.hid (O6.out.grew hb6)
          have B9 := Lib.hid ((Blk.new w6 35 #[.int .u64 (x : Int), .int .u64 (y : Int), .int .u64 (zz : Int)]).grew hb)
          have B7c := Lib.hid (B7b.out.grew hb6)
          have D7 := Lib.hid (below_then D6.out D6.out.size hb6)
          clear hb hb6 KT c0A
          have BL7 := Lib.hid (fun ob => (Below.refl w7.heap.size w7).alloc (Nat.le_refl _) ob)
          have a0 : ∀ ob, (w7.alloc ob).cell? ⟨wr.heap.size, 0, none⟩ = some (.int .u64 (x : Int)) := fun ob => (B7c.out.alloc ob).c3.1
          have a1 : ∀ ob, (w7.alloc ob).cell? ⟨wr.heap.size, 1, none⟩ = some (.int .u64 (y : Int)) := fun ob => (B7c.out.alloc ob).c3.2.1
          have a2 : ∀ ob, (w7.alloc ob).cell? ⟨wr.heap.size, 2, none⟩ = some (.int .u64 (zz : Int)) := fun ob => (B7c.out.alloc ob).c3.2.2
          have b0 : ∀ ob, (w7.alloc ob).cell? ⟨w6.heap.size, 0, none⟩ = some (.int .u64 (x : Int)) := fun ob => (B9.out.alloc ob).c3.1
          have b1 : ∀ ob, (w7.alloc ob).cell? ⟨w6.heap.size, 1, none⟩ = some (.int .u64 (y : Int)) := fun ob => (B9.out.alloc ob).c3.2.1
          have b2 : ∀ ob, (w7.alloc ob).cell? ⟨w6.heap.size, 2, none⟩ = some (.int .u64 (zz : Int)) := fun ob => (B9.out.alloc ob).c3.2.2
          have KJ : Hid (∀ ob, Calls Try.prog 21 #[ptrV lb 0, .int .u64 (z : Int)] (w7.alloc ob) fun r w' => r = .returned (.tuple #[.agg #[.int .u64 (g1 : Int), .int .u64 (g2 : Int), .int .u64 (g3 : Int)], .int .i64 (ge : Int)]) ∧ Below w7.heap.size w7 w') := Lib.hid fun ob => by
            have := In_any (w7.alloc ob) (O7.out.grew (BL7.out ob)).led (x := z)
            rw [I2.out] at this
            exact this.mono fun r w' k => ⟨k.1, below_then (BL7.out ob) (BL7.out ob).size k.2⟩
          go_wp2_with fail
          refine (KJ.out _).mono ?_; rintro e1 w8 ⟨rfl, hb⟩
          have O8 := Lib.hid (O7.out.grew hb)
          have B7d := Lib.hid (B7c.out.grew hb)
          have D8 := Lib.hid (below_then D7.out D7.out.size hb)
          clear hb KJ a0 a1 a2 b0 b1 b2
          have BL8 := Lib.hid (fun ob => (Below.refl w8.heap.size w8).alloc (Nat.le_refl _) ob)
          have e0 : ∀ ob, (w8.alloc ob).cell? ⟨wr.heap.size, 0, none⟩ = some (.int .u64 (x : Int)) := fun ob => (B7d.out.alloc ob).c3.1
          have e1 : ∀ ob, (w8.alloc ob).cell? ⟨wr.heap.size, 1, none⟩ = some (.int .u64 (y : Int)) := fun ob => (B7d.out.alloc ob).c3.2.1
          by_cases hge : ge = 0
          · have hg1 := G2.out hge
            subst hge hg1
            go_wp2_with fail
            go_roundw
            case rel => exact ⟨j + 1, M', by rw [HN.out]; omega, by go_num, OZ.out.1 _ w8 O8.out, MB.out, OZ.out.2 _ _ U5.out (below_then D8.out D8.out.size (BL8.out _))⟩
            case measure => simp [intOf] <;> omega
          · have q9 : ¬ ((ge : Int) = 0) := by omega
            clear hge
            go_wp2_with fail
            go_roundw
            case rel => exact ⟨j + 1, M', by rw [HN.out]; omega, by go_num, OZ.out.1 _ w8 O8.out, MB.out, OZ.out.2 _ _ U5.out (below_then D8.out D8.out.size (BL8.out _))⟩
            case measure => simp [intOf] <;> omega
        · have A1 := Lib.hid (AT1.out hd)
          have q8 : ¬ ((d : Int) = 0) := by omega
          clear hd0 het hd
          have KL := Lib.hid (let_one (O1.out.grew (BX.out (.cells #[.int .u64 (x : Int), .int .u64 (y : Int), .int .u64 (zz : Int)] 35))).led x (wr.heap.size + 1) (by simp))
          rw [LD.out] at KL
          go_wp2_with fail
          refine KL.out.mono ?_; rintro e1 w5 ⟨rfl, hh, hu⟩
          have O5 := Lib.hid ((O1.out.grew (BX.out (.cells #[.int .u64 (x : Int), .int .u64 (y : Int), .int .u64 (zz : Int)] 35))).next hh hu)
          have B7 := Lib.hid (BB.out.upd hu (fun hk => Nat.lt_irrefl _ hk.2))
          have U5 := Lib.hid (((updFalse_of (BX.out (.cells #[.int .u64 (x : Int), .int .u64 (y : Int), .int .u64 (zz : Int)] 35))).mono fun _ h => h.elim).step hu fun k hk => .inl hk.1)
          clear hh hu KL
          obtain ⟨c0, c1, c2⟩ := B7.out.c3
          have KI := In_any w5 O5.out.led (x := s)
          rw [I1.out] at KI
          unfold toldV blkV at KI
          have KI := Lib.hid KI
          go_wp2_with fail
          refine KI.out.mono ?_; rintro e1 w6 ⟨rfl, hb⟩
          have O6 := Lib.hid (O5.out.grew hb)
          have B7b := Lib.hid (B7.out.grew hb)
          have D6 := Lib.hid hb
          clear hb KI
          have BL6 := Lib.hid (fun ob => (Below.refl w6.heap.size w6).alloc (Nat.le_refl _) ob)
          have c0A : ∀ ob, (w6.alloc ob).cell? ⟨wr.heap.size, 0, none⟩ = some (.int .u64 (x : Int)) := fun ob => (B7b.out.alloc ob).c3.1
          have KT : Hid (∀ ob, Calls Try.prog 18 #[ptrV lb 0, .int .u64 (s : Int)] (w6.alloc ob) fun r w' => r = .returned (toldV ((0, 0, 0), 5)) ∧ Below (w6.alloc ob).heap.size (w6.alloc ob) w') := Lib.hid fun ob => by
            have := At_any (w6.alloc ob) (O6.out.grew (BL6.out ob)).led (x := s)
            rw [A1.out] at this
            exact this
          unfold toldV blkV at KT
          go_wp2_with fail
          refine (KT.out _).mono ?_; rintro e1 w7 ⟨rfl, hb⟩
          have hb6 := below_then (BL6.out (.cells #[.int .u64 (x : Int), .int .u64 (y : Int), .int .u64 (zz : Int)] 35)) (BL6.out (.cells #[.int .u64 (x : Int), .int .u64 (y : Int), .int .u64 (zz : Int)] 35)).size hb
          have O7 := Lib.hid (O6.out.grew hb6)
          have B9 := Lib.hid ((Blk.new w6 35 #[.int .u64 (x : Int), .int .u64 (y : Int), .int .u64 (zz : Int)]).grew hb)
          have B7c := Lib.hid (B7b.out.grew hb6)
          have D7 := Lib.hid (below_then D6.out D6.out.size hb6)
          clear hb hb6 KT c0A
          have BL7 := Lib.hid (fun ob => (Below.refl w7.heap.size w7).alloc (Nat.le_refl _) ob)
          have a0 : ∀ ob, (w7.alloc ob).cell? ⟨wr.heap.size, 0, none⟩ = some (.int .u64 (x : Int)) := fun ob => (B7c.out.alloc ob).c3.1
          have a1 : ∀ ob, (w7.alloc ob).cell? ⟨wr.heap.size, 1, none⟩ = some (.int .u64 (y : Int)) := fun ob => (B7c.out.alloc ob).c3.2.1
          have a2 : ∀ ob, (w7.alloc ob).cell? ⟨wr.heap.size, 2, none⟩ = some (.int .u64 (zz : Int)) := fun ob => (B7c.out.alloc ob).c3.2.2
          have b0 : ∀ ob, (w7.alloc ob).cell? ⟨w6.heap.size, 0, none⟩ = some (.int .u64 (x : Int)) := fun ob => (B9.out.alloc ob).c3.1
          have b1 : ∀ ob, (w7.alloc ob).cell? ⟨w6.heap.size, 1, none⟩ = some (.int .u64 (y : Int)) := fun ob => (B9.out.alloc ob).c3.2.1
          have b2 : ∀ ob, (w7.alloc ob).cell? ⟨w6.heap.size, 2, none⟩ = some (.int .u64 (zz : Int)) := fun ob => (B9.out.alloc ob).c3.2.2
          have KJ : Hid (∀ ob, Calls Try.prog 21 #[ptrV lb 0, .int .u64 (z : Int)] (w7.alloc ob) fun r w' => r = .returned (.tuple #[.agg #[.int .u64 (g1 : Int), .int .u64 (g2 : Int), .int .u64 (g3 : Int)], .int .i64 (ge : Int)]) ∧ Below w7.heap.size w7 w') := Lib.hid fun ob => by
            have := In_any (w7.alloc ob) (O7.out.grew (BL7.out ob)).led (x := z)
            rw [I2.out] at this
            exact this.mono fun r w' k => ⟨k.1, below_then (BL7.out ob) (BL7.out ob).size k.2⟩
          go_wp2_with fail
          refine (KJ.out _).mono ?_; rintro e1 w8 ⟨rfl, hb⟩
          have O8 := Lib.hid (O7.out.grew hb)
          have B7d := Lib.hid (B7c.out.grew hb)
          have D8 := Lib.hid (below_then D7.out D7.out.size hb)
          clear hb KJ a0 a1 a2 b0 b1 b2
          have BL8 := Lib.hid (fun ob => (Below.refl w8.heap.size w8).alloc (Nat.le_refl _) ob)
          have e0 : ∀ ob, (w8.alloc ob).cell? ⟨wr.heap.size, 0, none⟩ = some (.int .u64 (x : Int)) := fun ob => (B7d.out.alloc ob).c3.1
          have e1 : ∀ ob, (w8.alloc ob).cell? ⟨wr.heap.size, 1, none⟩ = some (.int .u64 (y : Int)) := fun ob => (B7d.out.alloc ob).c3.2.1
          by_cases hge : ge = 0
          · have hg1 := G2.out hge
            subst hge hg1
            go_wp2_with fail
            go_roundw
            case rel => exact ⟨j + 1, M', by rw [HN.out]; omega, by go_num, OZ.out.1 _ w8 O8.out, MB.out, OZ.out.2 _ _ U5.out (below_then D8.out D8.out.size (BL8.out _))⟩
            case measure => simp [intOf] <;> omega
          · have q9 : ¬ ((ge : Int) = 0) := by omega
            clear hge
            go_wp2_with fail
            go_roundw
            case rel => exact ⟨j + 1, M', by rw [HN.out]; omega, by go_num, OZ.out.1 _ w8 O8.out, MB.out, OZ.out.2 _ _ U5.out (below_then D8.out D8.out.size (BL8.out _))⟩
            case measure => simp [intOf] <;> omega
      · rw [het] at ez
        have sz : (x : Int) + 1 = (z : Int) := by omega
        have od : (o : Int) % 1 = (d : Int) := by rw [← hd0, show e.t = 1 from by rw [het]; omega]; omega
        have od2 : Int.tmod (o : Int) 1 = (d : Int) := by rw [← hd0, show e.t = 1 from by rw [het]; omega]; simp
        clear ez
        by_cases hd : d = 0
        · subst hd
          obtain rfl : x = s := by omega
          have A1 := Lib.hid (AT0.out rfl)
          clear hd0 het
          have KL := Lib.hid (let_one (O1.out.grew (BX.out (.cells #[.int .u64 (x : Int), .int .u64 (y : Int), .int .u64 (zz : Int)] 35))).led x (wr.heap.size + 1) (by simp))
          rw [LD.out] at KL
          go_wp2_with fail
          refine KL.out.mono ?_; rintro e1 w5 ⟨rfl, hh, hu⟩
          have O5 := Lib.hid ((O1.out.grew (BX.out (.cells #[.int .u64 (x : Int), .int .u64 (y : Int), .int .u64 (zz : Int)] 35))).next hh hu)
          have B7 := Lib.hid (BB.out.upd hu (fun hk => Nat.lt_irrefl _ hk.2))
          have U5 := Lib.hid (((updFalse_of (BX.out (.cells #[.int .u64 (x : Int), .int .u64 (y : Int), .int .u64 (zz : Int)] 35))).mono fun _ h => h.elim).step hu fun k hk => .inl hk.1)
          clear hh hu KL
          obtain ⟨c0, c1, c2⟩ := B7.out.c3
          have KI := In_any w5 O5.out.led (x := x)
          rw [I1.out] at KI
          unfold toldV blkV at KI
          have KI := Lib.hid KI
          go_wp2_with fail
          refine KI.out.mono ?_; rintro e1 w6 ⟨rfl, hb⟩
          have O6 := Lib.hid (O5.out.grew hb)
          have B7b := Lib.hid (B7.out.grew hb)
          have D6 := Lib.hid hb
          clear hb KI
          have BL6 := Lib.hid (fun ob => (Below.refl w6.heap.size w6).alloc (Nat.le_refl _) ob)
          have c0A : ∀ ob, (w6.alloc ob).cell? ⟨wr.heap.size, 0, none⟩ = some (.int .u64 (x : Int)) := fun ob => (B7b.out.alloc ob).c3.1
          have KT : Hid (∀ ob, Calls Try.prog 18 #[ptrV lb 0, .int .u64 (x : Int)] (w6.alloc ob) fun r w' => r = .returned (toldV ((x, y, zz), 0)) ∧ Below (w6.alloc ob).heap.size (w6.alloc ob) w') := Lib.hid fun ob => by
            have := At_any (w6.alloc ob) (O6.out.grew (BL6.out ob)).led (x := x)
            rw [A1.out] at this
            exact this
          unfold toldV blkV at KT
          go_wp2_with fail
          refine (KT.out _).mono ?_; rintro e1 w7 ⟨rfl, hb⟩
          have hb6 := below_then (BL6.out (.cells #[.int .u64 (x : Int), .int .u64 (y : Int), .int .u64 (zz : Int)] 35)) (BL6.out (.cells #[.int .u64 (x : Int), .int .u64 (y : Int), .int .u64 (zz : Int)] 35)).size hb
          have O7 := Lib.hid (O6.out.grew hb6)
          have B9 := Lib.hid ((Blk.new w6 35 #[.int .u64 (x : Int), .int .u64 (y : Int), .int .u64 (zz : Int)]).grew hb)
          have B7c := Lib.hid (B7b.out.grew hb6)
          have D7 := Lib.hid (below_then D6.out D6.out.size hb6)
          clear hb hb6 KT c0A
          have BL7 := Lib.hid (fun ob => (Below.refl w7.heap.size w7).alloc (Nat.le_refl _) ob)
          have a0 : ∀ ob, (w7.alloc ob).cell? ⟨wr.heap.size, 0, none⟩ = some (.int .u64 (x : Int)) := fun ob => (B7c.out.alloc ob).c3.1
          have a1 : ∀ ob, (w7.alloc ob).cell? ⟨wr.heap.size, 1, none⟩ = some (.int .u64 (y : Int)) := fun ob => (B7c.out.alloc ob).c3.2.1
          have a2 : ∀ ob, (w7.alloc ob).cell? ⟨wr.heap.size, 2, none⟩ = some (.int .u64 (zz : Int)) := fun ob => (B7c.out.alloc ob).c3.2.2
          have b0 : ∀ ob, (w7.alloc ob).cell? ⟨w6.heap.size, 0, none⟩ = some (.int .u64 (x : Int)) := fun ob => (B9.out.alloc ob).c3.1
          have b1 : ∀ ob, (w7.alloc ob).cell? ⟨w6.heap.size, 1, none⟩ = some (.int .u64 (y : Int)) := fun ob => (B9.out.alloc ob).c3.2.1
          have b2 : ∀ ob, (w7.alloc ob).cell? ⟨w6.heap.size, 2, none⟩ = some (.int .u64 (zz : Int)) := fun ob => (B9.out.alloc ob).c3.2.2
          have KJ : Hid (∀ ob, Calls Try.prog 21 #[ptrV lb 0, .int .u64 (z : Int)] (w7.alloc ob) fun r w' => r = .returned (.tuple #[.agg #[.int .u64 (g1 : Int), .int .u64 (g2 : Int), .int .u64 (g3 : Int)], .int .i64 (ge : Int)]) ∧ Below w7.heap.size w7 w') := Lib.hid fun ob => by
            have := In_any (w7.alloc ob) (O7.out.grew (BL7.out ob)).led (x := z)
            rw [I2.out] at this
            exact this.mono fun r w' k => ⟨k.1, below_then (BL7.out ob) (BL7.out ob).size k.2⟩
          go_wp2_with fail
          refine (KJ.out _).mono ?_; rintro e1 w8 ⟨rfl, hb⟩
          have O8 := Lib.hid (O7.out.grew hb)
          have B7d := Lib.hid (B7c.out.grew hb)
          have D8 := Lib.hid (below_then D7.out D7.out.size hb)
          clear hb KJ a0 a1 a2 b0 b1 b2
          have BL8 := Lib.hid (fun ob => (Below.refl w8.heap.size w8).alloc (Nat.le_refl _) ob)
          have e0 : ∀ ob, (w8.alloc ob).cell? ⟨wr.heap.size, 0, none⟩ = some (.int .u64 (x : Int)) := fun ob => (B7d.out.alloc ob).c3.1
          have e1 : ∀ ob, (w8.alloc ob).cell? ⟨wr.heap.size, 1, none⟩ = some (.int .u64 (y : Int)) := fun ob => (B7d.out.alloc ob).c3.2.1
          by_cases hge : ge = 0
          · have hg1 := G2.out hge
            subst hge hg1
            go_wp2_with fail
            go_roundw
            case rel => exact ⟨j + 1, M', by rw [HN.out]; omega, by go_num, OZ.out.1 _ w8 O8.out, MB.out, OZ.out.2 _ _ U5.out (below_then D8.out D8.out.size (BL8.out _))⟩
            case measure => simp [intOf] <;> omega
          · have q9 : ¬ ((ge : Int) = 0) := by omega
            clear hge
            go_wp2_with fail
            go_roundw
            case rel => exact ⟨j + 1, M', by rw [HN.out]; omega, by go_num, OZ.out.1 _ w8 O8.out, MB.out, OZ.out.2 _ _ U5.out (below_then D8.out D8.out.size (BL8.out _))⟩
            case measure => simp [intOf] <;> omega
        · exact absurd (show d = 0 by omega) hd
    · obtain rfl : j = N := by omega
      have t2 : decide (j < j) = false := decide_eq_false hjn
      have t2' : decide ((j : Int) < (j : Int)) = false := decide_eq_false (by omega)
      have O5 := Lib.hid ho
      clear ho hM hu hjn
      go_wp2_with fail
      go_ret
      exact ⟨rfl, below_then B2.out B2.out.size O5.out.below⟩
theorem walk (w : World) {a : Option Addr} {n cap : Nat} (len : Nat) (F : Nat → Nat → Value) (h : Recs w (.slice a n cap) ActL15 len F) (y : Int) (hy : (Lit.int .u16 y).wf = true) :
    Calls Try.prog 6 #[.slice a n cap, .int .u16 y] w fun e w' => e = .returned (.bool true) ∧ Below w.heap.size w w' := by
  have b2 : 0 ≤ y ∧ y ≤ 65535 := by simp [Lit.wf, IntKind.min, IntKind.max, IntKind.signed, IntKind.bits] at hy; omega
  obtain ⟨y, rfl⟩ := Int.eq_ofNat_of_zero_le b2.1
  exact walk_nat w len F h y (by omega)
end Go.Proofs.Ytklblmodpkhjnaa.ledgerIn
