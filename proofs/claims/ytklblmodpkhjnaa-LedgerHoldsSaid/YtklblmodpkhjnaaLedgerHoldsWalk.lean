/- LedgerHolds: the walk. (Written by genholds15.py.) -/
import Derived.Test.YtklblmodpkhjnaaLedMath4
import Derived.Test.YtklblmodpkhjnaaSame15
namespace Go.Proofs.Ytklblmodpkhjnaa.ledgerHolds
open Go.RowKit LedMath
set_option linter.unusedVariables false

theorem let_done {M : List En} (h : GoodL M) {e : En} (he : e ∈ M) : ∃ er M', let1 M e.a = (er, M') ∧ M'.map En.b = M.map En.b ∧ GoodL M' ∧ ∃ e', e' ∈ M' ∧ e'.b = e.b ∧ e'.h = false := by
  rw [let_at h he]
  by_cases hh : e.h = true
  · exact ⟨_, _, if_pos hh, setE_b M e.a false, h.set e.a false, putH false e, mem_setE he false, rfl, rfl⟩
  · exact ⟨_, _, if_neg hh, rfl, h, e, he, rfl, by simpa using hh⟩
/-- The ledger now, and what has become of the world since the block was boxed. -/
structure HS (w2 w4b : World) (lb : Nat) (T : Nat → Prop) (M : List En) (w' : World) : Prop where
  o : OL w2 lb T M w'
  u : Upd T w4b w'
theorem HS.grew {w2 w4b w' w5 : World} {lb : Nat} {T : Nat → Prop} {M : List En} (h : HS w2 w4b lb T M w') (hb : Below w'.heap.size w' w5) : HS w2 w4b lb T M w5 := ⟨h.o.grew hb, h.u.trans ((updFalse_of hb).mono fun _ h => h.elim)⟩
theorem HS.al {w2 w4b w' : World} {lb : Nat} {T : Nat → Prop} {M : List En} (h : HS w2 w4b lb T M w') (ob : Obj) : HS w2 w4b lb T M (w'.alloc ob) := h.grew ((Below.refl _ _).alloc (Nat.le_refl _) ob)
theorem HS.act {w2 w4b w' w5 : World} {lb : Nat} {T : Nat → Prop} {M M' : List En} (h : HS w2 w4b lb T M w') (ht : ∀ k, w4b.heap.size ≤ k → T k) (k : Led w5 lb (Grown T w') M') (u : Upd T w' w5) : HS w2 w4b lb T M' w5 :=
  ⟨(h.o.next k u).mono (fun k _ hk => hk.elim id fun h' => ht k (Nat.le_trans h.u.size h')) h.o.hi, h.u.trans u⟩
set_option maxRecDepth 100000 in
set_option maxHeartbeats 8000000 in
theorem walk_nat (w : World) {a : Option Addr} {n cap : Nat} (len : Nat) (F : Nat → Nat → Value) (h : Recs w (.slice a n cap) ActL15 len F) (o : Nat) (ho9 : o ≤ 255) :
    Calls Try.prog 5 #[.slice a n cap, .int .u8 (o : Int)] w fun e w' => e = .returned (.bool true) ∧ Below w.heap.size w w' := by
  have AL := Lib.hid (alive_any w)
  have GR := Lib.hid (fun w' hw => great_any w h w' hw)
  have FI := Lib.hid (fun w' hw => filled_any w h w' hw)
  clear h
  go_enter Try.func5, Try.ntmps5
  go_wp2_with fail
  refine AL.out.mono ?_; rintro e w1 ⟨rfl, hb⟩
  have B1 := Lib.hid hb
  clear hb
  go_wp2_with fail
  refine (GR.out w1 B1.out).mono ?_; rintro e w2 ⟨gr, rfl, hb⟩
  have B2 := Lib.hid (below_then B1.out B1.out.size hb)
  clear hb
  cases gr
  rotate_left
  · go_wp2_with fail
    go_ret
    exact ⟨rfl, B2.out⟩
  go_wp2_with fail
  refine (FI.out w2 B2.out).mono ?_; rintro e w3 ⟨lb, L, rfl, ho⟩
  have O3 := Lib.hid ho
  clear ho AL GR FI
  have KA := Lib.hid (All_any w3 O3.out.led)
  go_wp2_with fail
  refine KA.out.mono ?_; rintro e w4 ⟨v, rfl, hv, hin, hb⟩
  have hsz4 := hb.size
  have hsz3 := O3.out.below.size
  obtain ⟨T, hT⟩ : ∃ T : Nat → Prop, T = fun k => (w2.heap.size ≤ k ∧ k < w3.heap.size) ∨ w4.heap.size + 1 ≤ k := ⟨_, rfl⟩
  have O4 := Lib.hid (show OL w2 lb T L w4 from (((O3.out.mono (T' := fun k => w2.heap.size ≤ k ∧ k < w3.heap.size) (fun k hk hk' => ⟨hk', hk⟩) fun k hk => hk.1).grew hb).mono (fun k _ hk => by rw [hT]; exact .inl hk) fun k hk => by rw [hT] at hk; omega))
  have TN : ∀ k, In v k → ¬ T k := fun k hk hk' => by
    have h1 := hin k hk
    have h2 := hv.lt hk
    rw [hT] at hk'
    omega
  have TB : ¬ T w4.heap.size := fun hk => by rw [hT] at hk; omega
  have TT0 : ∀ k, w4.heap.size + 1 ≤ k → T k := fun k hk => by rw [hT]; exact .inr hk
  obtain ⟨av, cv, ev, hcv, _⟩ := hv.slice'
  obtain ⟨N, hN⟩ : ∃ N, L.length = N := ⟨_, rfl⟩
  rw [List.length_map, hN] at ev
  subst ev
  have HN := Lib.hid hN
  have hNb : N ≤ 1048576 := by rw [← hN]; exact O3.out.led.good.len
  have hV := hv.seq
  clear hin hb KA O3 hT hsz4 hsz3 hcv hv
  by_cases h0 : N = 0
  · subst h0
    have eL : L = [] := List.length_eq_zero_iff.1 hN
    have KA := At_any w4 O4.out.led (x := 0)
    rw [eL, show toldE (atL [] 0) = ((0, 0, 0), 5) from rfl] at KA
    unfold toldV blkV at KA
    have KA := Lib.hid KA
    have KB : Hid (∀ w' ob, Below w4.heap.size w4 w' → Calls Try.prog 14 #[ptrV lb 0] (w'.alloc ob) fun r w5 => r = .returned (.int .u64 0) ∧ Below w'.heap.size w' w5) := Lib.hid fun w' ob hb => by
      have := Bytes_any (w'.alloc ob) (O4.out.grew (hb.alloc hb.size ob)).led
      rw [eL, show sumN [] = 0 from rfl] at this
      exact this.mono fun r w5 k => ⟨k.1, below_then ((Below.refl _ w').alloc (Nat.le_refl _) ob) (by simp) k.2⟩
    clear hN eL TN TB TT0 hV
    go_wp2_with fail
    refine KA.out.mono ?_; rintro r u1 ⟨rfl, hb⟩
    have O5 := Lib.hid (O4.out.grew hb)
    have D1 := Lib.hid hb
    clear hb
    go_wp2_with fail
    refine (KB.out u1 _ D1.out).mono ?_; rintro r u2 ⟨rfl, hb⟩
    have O6 := Lib.hid (O5.out.grew hb)
    clear hb
    go_wp2_with fail
    go_ret
    exact ⟨rfl, below_then B2.out B2.out.size O6.out.below⟩
  · obtain ⟨i, hi0⟩ : ∃ i, o % N = i := ⟨_, rfl⟩
    have hi : i < N := by rw [← hi0]; exact Nat.mod_lt _ (by omega)
    have d1 : (o : Int) % (N : Int) = (i : Int) := by rw [← hi0]; exact (Int.natCast_emod _ _).symm
    have d2 : Int.tmod (o : Int) (N : Int) = (i : Int) := by rw [← hi0]; exact (Int.ofNat_tmod _ _).symm
    have q0 : ¬ ((N : Int) = 0) := by omega
    have q1 : (0 : Int) ≤ (i : Int) := by omega
    have q2 : (i : Int) < (N : Int) := by omega
    have w1' : IntKind.i64.wrap (o : Int) = (o : Int) := IntWalk.i64_in _ ⟨by omega, by omega⟩
    have w2' : IntKind.i64.wrap (i : Int) = (i : Int) := IntWalk.i64_in _ ⟨by omega, by omega⟩
    obtain ⟨e, he⟩ : ∃ e, L[i]? = some e := ⟨_, List.getElem?_eq_getElem (by rw [hN]; exact hi)⟩
    obtain ⟨b, off, ea', k0, k1, k2⟩ := hV.blk (i := i) (x := e.b) (by rw [List.getElem?_map, he]; rfl)
    subst ea'
    have G := O4.out.led.good
    have hm := List.mem_of_getElem? he
    obtain ⟨er0, M1, hlet, hMb1, G1, e1, hm1, hb1, hh1⟩ := let_done G hm
    obtain ⟨x, hx⟩ : ∃ x, e.a = x := ⟨_, rfl⟩
    obtain ⟨y, hy⟩ : ∃ y, e.n = y := ⟨_, rfl⟩
    obtain ⟨z, hz⟩ : ∃ z, e.g = z := ⟨_, rfl⟩
    obtain ⟨t, ht⟩ : ∃ t, max y 1 = t := ⟨_, rfl⟩
    have eb : e.b = (x, y, z) := by unfold En.b; rw [hx, hy, hz]
    have eb1 : e1.b = (x, y, z) := hb1.trans eb
    have ea1 : e1.a = x := congrArg Prod.fst eb1
    have en1 : e1.n = y := congrArg (fun p => p.2.1) eb1
    have eg1 : e1.g = z := congrArg (fun p => p.2.2) eb1
    obtain ⟨M2, hM2⟩ : ∃ M2, setE M1 x true = M2 := ⟨_, rfl⟩
    obtain ⟨e2, he2⟩ : ∃ e2, putH true e1 = e2 := ⟨_, rfl⟩
    have hm2 : e2 ∈ M2 := by rw [← he2, ← hM2, ← ea1]; exact mem_setE hm1 true
    have G2 : GoodL M2 := by rw [← hM2]; exact G1.set x true
    have ea2 : e2.a = x := by rw [← he2]; exact ea1
    have en2 : e2.n = y := by rw [← he2]; exact en1
    have eg2 : e2.g = z := by rw [← he2]; exact eg1
    have hh2 : e2.h = true := by rw [← he2]; rfl
    obtain ⟨M3, hM3⟩ : ∃ M3, setE M2 x false = M3 := ⟨_, rfl⟩
    obtain ⟨e3, he3⟩ : ∃ e3, putH false e2 = e3 := ⟨_, rfl⟩
    have hm3 : e3 ∈ M3 := by rw [← he3, ← hM3, ← ea2]; exact mem_setE hm2 false
    have G3 : GoodL M3 := by rw [← hM3]; exact G2.set x false
    have ea3 : e3.a = x := by rw [← he3]; exact ea2
    have en3 : e3.n = y := by rw [← he3]; exact en2
    have eg3 : e3.g = z := by rw [← he3]; exact eg2
    have hh3 : e3.h = false := by rw [← he3]; rfl
    obtain ⟨M4, hM4⟩ : ∃ M4, dropE M3 x = M4 := ⟨_, rfl⟩
    obtain ⟨M5, hM5⟩ : ∃ M5, insE M4 ⟨x, y, z, false⟩ = M5 := ⟨_, rfl⟩
    rw [hx] at hlet
    have fLLet : let1 L x = (er0, M1) := hlet
    have fM1Hold : hold1 M1 x = (0, M2) := by rw [← ea1, hold_at G1 hm1, if_neg (by rw [hh1]; decide), ← hM2, ea1]
    have fM2Hold : hold1 M2 x = (7, M2) := by rw [← ea2, hold_at G2 hm2, if_pos hh2]
    have fM2Let : let1 M2 x = (0, M3) := by rw [← ea2, let_at G2 hm2, if_pos hh2, ← hM3, ea2]
    have fM3Let : let1 M3 x = (8, M3) := by rw [← ea3, let_at G3 hm3, if_neg (by rw [hh3]; decide)]
    have fM3Drop : drop1 M3 x = (0, M4) := by rw [← ea3, drop_at G3 hm3, ← hM4, ea3]
    have fM4Drop : drop1 M4 x = (5, M4) := by unfold drop1; rw [← hM4, at_dropE]
    have fM1At : toldE (atL M1 x) = ((x, y, z), 0) := by rw [← ea1, told_at G1 hm1, if_neg (by rw [hh1]; decide), eb1, ea1]
    have fM2At : toldE (atL M2 x) = ((0, 0, 0), 7) := by rw [← ea2, told_at G2 hm2, if_pos hh2]
    have fM2In : toldE (inL M2 x) = ((0, 0, 0), 7) := by rw [told_in G2 hm2 (by omega) (by have := e2.lt_z; omega), if_pos hh2]
    have fM2Free : freeL M2 x 1 = false := by
      unfold freeL
      have : metL M2 x 1 = true := by rw [← ea2]; exact met_self hm2 (by decide)
      rw [this]; simp
    have hmay : mayE x y z = true := by have := G1.may _ hm1; rw [ea1, en1, eg1] at this; exact this
    have hend := may_end hmay
    have fM2Add : addE M2 x y z = (6, M2) := by
      unfold addE
      rw [if_pos hmay, if_pos (by rw [← ea2]; exact met_self hm2 (by omega))]
    have fM4At : toldE (atL M4 x) = ((0, 0, 0), 5) := by rw [← hM4, at_dropE]; rfl
    have et3 : e3.t = t := by rw [← ht]; unfold En.t; rw [en3]
    have hmet : metL M4 x t = false := by have := met_dropE G3 hm3; rw [et3, ea3, hM4] at this; exact this
    have fM4Free : freeL M4 x t = true := by
      unfold freeL
      rw [hmet, decide_eq_true (show x + t ≤ 18446744073709551616 by rw [← ht]; omega)]; simp
    have fM4Add : addE M4 x y z = (0, M5) := by
      unfold addE
      rw [if_pos hmay, if_neg (by rw [ht, hmet]; decide), hM5]
    have b5 : M5.map En.b = L.map En.b := by
      rw [← hM5, ← hM4]
      have := again_b G3 hm3 false
      rw [ea3, en3, eg3] at this
      rw [this, ← hM3, setE_b, ← hM2, setE_b, hMb1]
    obtain ⟨w4b, hw4b⟩ : ∃ w4b, w4.alloc (.cells #[.int .u64 (x : Int), .int .u64 (y : Int), .int .u64 (z : Int)] 35) = w4b := ⟨_, rfl⟩
    have s4b : w4b.heap.size = w4.heap.size + 1 := by rw [← hw4b]; simp
    have TT : Hid (∀ k, w4b.heap.size ≤ k → T k) := Lib.hid fun k hk => TT0 k (by omega)
    have B4 := (Below.refl w4.heap.size w4).alloc (Nat.le_refl _) (.cells #[.int .u64 (x : Int), .int .u64 (y : Int), .int .u64 (z : Int)] 35)
    have bx := Blk.new w4 35 #[.int .u64 (x : Int), .int .u64 (y : Int), .int .u64 (z : Int)]
    rw [hw4b] at B4 bx
    have S0 : Hid (HS w2 w4b lb T L w4b) := Lib.hid ⟨O4.out.grew B4, Upd.refl _ _⟩
    have HC : Hid (∀ {M : List En} w', HS w2 w4b lb T M w' → w'.cell? ⟨w4.heap.size, 0, none⟩ = some (.int .u64 (x : Int)) ∧ w'.cell? ⟨w4.heap.size, 1, none⟩ = some (.int .u64 (y : Int)) ∧ w'.cell? ⟨w4.heap.size, 2, none⟩ = some (.int .u64 (z : Int))) := Lib.hid fun w' k => (bx.upd k.u TB).c3
    have HV : Hid (∀ {M : List En} w', HS w2 w4b lb T M w' → Seq Elem.blks w' (.slice (some ⟨b, off, none⟩) N cv) (L.map En.b)) := Lib.hid fun w' k => (hV.below (Nat.le_refl _) B4).upd k.u TN
    have KLLet : Hid (∀ w' g, HS w2 w4b lb T L w' → g = w'.heap.size → Calls Try.prog 19 #[ptrV lb 0, .slice (some ⟨g, 0, none⟩) 1 1] (w'.alloc (.cells #[.int .u64 (x : Int)] 33)) fun r w5 => r = .returned (.int .i64 (er0 : Nat)) ∧ HS w2 w4b lb T M1 w5) := Lib.hid fun w' g k hg => by
      have := let_one k.o.led x g hg
      rw [fLLet] at this
      exact this.mono fun r w5 q => ⟨q.1, k.act TT.out q.2.1 q.2.2⟩
    have KM1Hold : Hid (∀ w' g, HS w2 w4b lb T M1 w' → g = w'.heap.size → Calls Try.prog 20 #[ptrV lb 0, .slice (some ⟨g, 0, none⟩) 1 1] (w'.alloc (.cells #[.int .u64 (x : Int)] 33)) fun r w5 => r = .returned (.int .i64 (0 : Nat)) ∧ HS w2 w4b lb T M2 w5) := Lib.hid fun w' g k hg => by
      have := hold_one k.o.led x g hg
      rw [fM1Hold] at this
      exact this.mono fun r w5 q => ⟨q.1, k.act TT.out q.2.1 q.2.2⟩
    have KM2Hold : Hid (∀ w' g, HS w2 w4b lb T M2 w' → g = w'.heap.size → Calls Try.prog 20 #[ptrV lb 0, .slice (some ⟨g, 0, none⟩) 1 1] (w'.alloc (.cells #[.int .u64 (x : Int)] 33)) fun r w5 => r = .returned (.int .i64 (7 : Nat)) ∧ HS w2 w4b lb T M2 w5) := Lib.hid fun w' g k hg => by
      have := hold_one k.o.led x g hg
      rw [fM2Hold] at this
      exact this.mono fun r w5 q => ⟨q.1, k.act TT.out q.2.1 q.2.2⟩
    have KM2Let : Hid (∀ w' g, HS w2 w4b lb T M2 w' → g = w'.heap.size → Calls Try.prog 19 #[ptrV lb 0, .slice (some ⟨g, 0, none⟩) 1 1] (w'.alloc (.cells #[.int .u64 (x : Int)] 33)) fun r w5 => r = .returned (.int .i64 (0 : Nat)) ∧ HS w2 w4b lb T M3 w5) := Lib.hid fun w' g k hg => by
      have := let_one k.o.led x g hg
      rw [fM2Let] at this
      exact this.mono fun r w5 q => ⟨q.1, k.act TT.out q.2.1 q.2.2⟩
    have KM3Let : Hid (∀ w' g, HS w2 w4b lb T M3 w' → g = w'.heap.size → Calls Try.prog 19 #[ptrV lb 0, .slice (some ⟨g, 0, none⟩) 1 1] (w'.alloc (.cells #[.int .u64 (x : Int)] 33)) fun r w5 => r = .returned (.int .i64 (8 : Nat)) ∧ HS w2 w4b lb T M3 w5) := Lib.hid fun w' g k hg => by
      have := let_one k.o.led x g hg
      rw [fM3Let] at this
      exact this.mono fun r w5 q => ⟨q.1, k.act TT.out q.2.1 q.2.2⟩
    have KM3Drop : Hid (∀ w' g, HS w2 w4b lb T M3 w' → g = w'.heap.size → Calls Try.prog 23 #[ptrV lb 0, .slice (some ⟨g, 0, none⟩) 1 1] (w'.alloc (.cells #[.int .u64 (x : Int)] 33)) fun r w5 => r = .returned (.int .i64 (0 : Nat)) ∧ HS w2 w4b lb T M4 w5) := Lib.hid fun w' g k hg => by
      have := drop_one k.o.led x g hg
      rw [fM3Drop] at this
      exact this.mono fun r w5 q => ⟨q.1, k.act TT.out q.2.1 q.2.2⟩
    have KM4Drop : Hid (∀ w' g, HS w2 w4b lb T M4 w' → g = w'.heap.size → Calls Try.prog 23 #[ptrV lb 0, .slice (some ⟨g, 0, none⟩) 1 1] (w'.alloc (.cells #[.int .u64 (x : Int)] 33)) fun r w5 => r = .returned (.int .i64 (5 : Nat)) ∧ HS w2 w4b lb T M4 w5) := Lib.hid fun w' g k hg => by
      have := drop_one k.o.led x g hg
      rw [fM4Drop] at this
      exact this.mono fun r w5 q => ⟨q.1, k.act TT.out q.2.1 q.2.2⟩
    have KM1At : Hid (∀ w', HS w2 w4b lb T M1 w' → Calls Try.prog 18 #[ptrV lb 0, .int .u64 (x : Int)] w' fun r w5 => r = .returned (toldV ((x, y, z), 0)) ∧ HS w2 w4b lb T M1 w5) := Lib.hid fun w' k => by
      have := At_any w' k.o.led (x := x)
      rw [fM1At] at this
      exact this.mono fun r w5 q => ⟨q.1, k.grew q.2⟩
    have KM2At : Hid (∀ w', HS w2 w4b lb T M2 w' → Calls Try.prog 18 #[ptrV lb 0, .int .u64 (x : Int)] w' fun r w5 => r = .returned (toldV ((0, 0, 0), 7)) ∧ HS w2 w4b lb T M2 w5) := Lib.hid fun w' k => by
      have := At_any w' k.o.led (x := x)
      rw [fM2At] at this
      exact this.mono fun r w5 q => ⟨q.1, k.grew q.2⟩
    have KM2In : Hid (∀ w', HS w2 w4b lb T M2 w' → Calls Try.prog 21 #[ptrV lb 0, .int .u64 (x : Int)] w' fun r w5 => r = .returned (toldV ((0, 0, 0), 7)) ∧ HS w2 w4b lb T M2 w5) := Lib.hid fun w' k => by
      have := In_any w' k.o.led (x := x)
      rw [fM2In] at this
      exact this.mono fun r w5 q => ⟨q.1, k.grew q.2⟩
    have KM2Free : Hid (∀ w', HS w2 w4b lb T M2 w' → Calls Try.prog 17 #[ptrV lb 0, .int .u64 (x : Int), .int .u64 ((1 : Nat) : Int)] w' fun r w5 => r = .returned (.bool false) ∧ HS w2 w4b lb T M2 w5) := Lib.hid fun w' k => by
      have := Free_any w' k.o.led (a := x) (n := 1) (by unfold U64B; omega) (by unfold U64B; omega)
      rw [fM2Free] at this
      exact this.mono fun r w5 q => ⟨q.1, k.grew q.2⟩
    have KM4At : Hid (∀ w', HS w2 w4b lb T M4 w' → Calls Try.prog 18 #[ptrV lb 0, .int .u64 (x : Int)] w' fun r w5 => r = .returned (toldV ((0, 0, 0), 5)) ∧ HS w2 w4b lb T M4 w5) := Lib.hid fun w' k => by
      have := At_any w' k.o.led (x := x)
      rw [fM4At] at this
      exact this.mono fun r w5 q => ⟨q.1, k.grew q.2⟩
    have KM4Free : Hid (∀ w', HS w2 w4b lb T M4 w' → Calls Try.prog 17 #[ptrV lb 0, .int .u64 (x : Int), .int .u64 (t : Int)] w' fun r w5 => r = .returned (.bool true) ∧ HS w2 w4b lb T M4 w5) := Lib.hid fun w' k => by
      have := Free_any w' k.o.led (a := x) (n := t) (by unfold U64B; omega) (by unfold U64B; rw [← ht]; omega)
      rw [fM4Free] at this
      exact this.mono fun r w5 q => ⟨q.1, k.grew q.2⟩
    have KM2Add : Hid (∀ w', HS w2 w4b lb T M2 w' → Calls Try.prog 22 #[ptrV lb 0, blkV x y z] w' fun r w5 => r = .returned (.int .i64 (6 : Nat)) ∧ HS w2 w4b lb T M2 w5) := Lib.hid fun w' k => by
      have := Add_any w' k.o.led (a := x) (n := y) (g := z) (by unfold U64B; omega) (by unfold U64B; omega) (by unfold U64B; have := (may_p2 hmay).2.1; omega)
      rw [fM2Add] at this
      exact this.mono fun r w5 q => ⟨q.1, k.act TT.out q.2.1 q.2.2⟩
    have KM4Add : Hid (∀ w', HS w2 w4b lb T M4 w' → Calls Try.prog 22 #[ptrV lb 0, blkV x y z] w' fun r w5 => r = .returned (.int .i64 (0 : Nat)) ∧ HS w2 w4b lb T M5 w5) := Lib.hid fun w' k => by
      have := Add_any w' k.o.led (a := x) (n := y) (g := z) (by unfold U64B; omega) (by unfold U64B; omega) (by unfold U64B; have := (may_p2 hmay).2.1; omega)
      rw [fM4Add] at this
      exact this.mono fun r w5 q => ⟨q.1, k.act TT.out q.2.1 q.2.2⟩
    have KM2All : Hid (∀ w', HS w2 w4b lb T M2 w' → Calls Try.prog 13 #[ptrV lb 0] w' fun r w5 => ∃ a5 c5, r = .returned (.slice a5 N c5) ∧ HS w2 w4b lb T M2 w5) := Lib.hid fun w' k => by
      refine (All_any w' k.o.led).mono ?_
      rintro r w5 ⟨v5, rfl, hv, _, hb⟩
      obtain ⟨a5, c5, e5, _, _⟩ := hv.slice'
      rw [← hM2, setE_b, hMb1, List.length_map, HN.out] at e5
      exact ⟨a5, c5, by rw [e5], k.grew hb⟩
    have KM5All : Hid (∀ w', HS w2 w4b lb T M5 w' → Calls Try.prog 13 #[ptrV lb 0] w' fun r w5 => ∃ a5 c5, r = .returned (.slice a5 N c5) ∧ Seq Elem.blks w5 (.slice a5 N c5) (L.map En.b) ∧ HS w2 w4b lb T M5 w5) := Lib.hid fun w' k => by
      refine (All_any w' k.o.led).mono ?_
      rintro r w5 ⟨v5, rfl, hv, _, hb⟩
      obtain ⟨a5, c5, e5, _, _⟩ := hv.slice'
      rw [b5] at hv e5
      rw [List.length_map, HN.out] at e5
      exact ⟨a5, c5, by rw [e5], by rw [← e5]; exact hv.seq, k.grew hb⟩
    have BW := Lib.hid hw4b
    have c0 := (HC.out _ S0.out).1
    have c1 := (HC.out _ S0.out).2.1
    have c2 := (HC.out _ S0.out).2.2
    have TMX := Lib.hid ht
    rw [show e.b.1 = x from hx] at k0
    rw [show e.b.2.1 = y from hy] at k1
    rw [show e.b.2.2 = z from hz] at k2
    clear hN hV TN TB TT0 he G hm hlet hMb1 G1 hm1 hb1 hh1 hx hy hz ht eb eb1 ea1 en1 eg1 hM2 he2 hm2 G2 ea2 en2 eg2 hh2 hM3 he3 hm3 G3 ea3 en3 eg3 hh3 hM4 hM5 fLLet fM1Hold fM2Hold fM2Let fM3Let fM3Drop fM4Drop fM1At fM2At fM2In fM2Free hmay hend fM2Add fM4At et3 hmet fM4Free fM4Add b5 s4b B4 bx hi hi0 h0
    by_cases hn1 : (1 : Int) ≤ (y : Int)
    · have mt : y = t := by have := TMX.out; omega
      subst mt
      go_wp2_with fail
      refine (KLLet.out _ _ (S0.out) (by simp)).mono ?_
      rintro r u1 ⟨rfl, hst⟩
      have S1 := Lib.hid hst
      have A1 := Lib.hid (fun ob => hst.al ob)
      obtain ⟨c0, c1, c2⟩ := HC.out _ hst
      clear hst
      unfold toldV blkV at KM1At
      go_wp2_with fail
      refine (KM1At.out _ (S1.out)).mono ?_
      rintro r u2 ⟨rfl, hst⟩
      have S2 := Lib.hid hst
      have A2 := Lib.hid (fun ob => hst.al ob)
      have c0 : ∀ ob, (u2.alloc ob).cell? ⟨w4.heap.size, 0, none⟩ = some (.int .u64 (x : Int)) := fun ob => (HC.out _ (A2.out ob)).1
      have c1 : ∀ ob, (u2.alloc ob).cell? ⟨w4.heap.size, 1, none⟩ = some (.int .u64 (y : Int)) := fun ob => (HC.out _ (A2.out ob)).2.1
      have c2 : ∀ ob, (u2.alloc ob).cell? ⟨w4.heap.size, 2, none⟩ = some (.int .u64 (z : Int)) := fun ob => (HC.out _ (A2.out ob)).2.2
      clear hst
      have r0 : ∀ ob, ((u2.alloc (.cells #[.int .u64 (x : Int), .int .u64 (y : Int), .int .u64 (z : Int)] 35)).alloc ob).cell? ⟨w4.heap.size, 0, none⟩ = some (.int .u64 (x : Int)) := fun ob => (HC.out _ ((A2.out _).al ob)).1
      go_wp2_with fail
      refine (KM1Hold.out _ _ (A2.out _) (by simp)).mono ?_
      rintro r u3 ⟨rfl, hst⟩
      have S3 := Lib.hid hst
      have A3 := Lib.hid (fun ob => hst.al ob)
      clear c0 c1 c2 r0
      obtain ⟨c0, c1, c2⟩ := HC.out _ hst
      clear hst
      go_wp2_with fail
      refine (KM2Hold.out _ _ (S3.out) (by simp)).mono ?_
      rintro r u4 ⟨rfl, hst⟩
      have S4 := Lib.hid hst
      have A4 := Lib.hid (fun ob => hst.al ob)
      clear c0 c1 c2
      obtain ⟨c0, c1, c2⟩ := HC.out _ hst
      clear hst
      unfold toldV blkV at KM2At
      go_wp2_with fail
      refine (KM2At.out _ (S4.out)).mono ?_
      rintro r u5 ⟨rfl, hst⟩
      have S5 := Lib.hid hst
      have A5 := Lib.hid (fun ob => hst.al ob)
      clear c0 c1 c2
      obtain ⟨c0, c1, c2⟩ := HC.out _ hst
      clear hst
      unfold toldV blkV at KM2In
      go_wp2_with fail
      refine (KM2In.out _ (S5.out)).mono ?_
      rintro r u6 ⟨rfl, hst⟩
      have S6 := Lib.hid hst
      have A6 := Lib.hid (fun ob => hst.al ob)
      clear c0 c1 c2
      have c0 : ∀ ob, (u6.alloc ob).cell? ⟨w4.heap.size, 0, none⟩ = some (.int .u64 (x : Int)) := fun ob => (HC.out _ (A6.out ob)).1
      have c1 : ∀ ob, (u6.alloc ob).cell? ⟨w4.heap.size, 1, none⟩ = some (.int .u64 (y : Int)) := fun ob => (HC.out _ (A6.out ob)).2.1
      have c2 : ∀ ob, (u6.alloc ob).cell? ⟨w4.heap.size, 2, none⟩ = some (.int .u64 (z : Int)) := fun ob => (HC.out _ (A6.out ob)).2.2
      clear hst
      go_wp2_with fail
      refine (KM2Free.out _ (A6.out _)).mono ?_
      rintro r u7 ⟨rfl, hst⟩
      have S7 := Lib.hid hst
      have A7 := Lib.hid (fun ob => hst.al ob)
      clear c0 c1 c2
      obtain ⟨c0, c1, c2⟩ := HC.out _ hst
      clear hst
      unfold blkV at KM2Add
      go_wp2_with fail
      refine (KM2Add.out _ (S7.out)).mono ?_
      rintro r u8 ⟨rfl, hst⟩
      have S8 := Lib.hid hst
      have A8 := Lib.hid (fun ob => hst.al ob)
      clear c0 c1 c2
      obtain ⟨c0, c1, c2⟩ := HC.out _ hst
      clear hst
      go_wp2_with fail
      refine (KM2All.out _ S8.out).mono ?_
      rintro r u9 ⟨a9, c9, rfl, hst⟩
      have S9 := Lib.hid hst
      clear c0 c1 c2
      obtain ⟨c0, c1, c2⟩ := HC.out _ hst
      clear hst
      go_wp2_with fail
      refine (KM2Let.out _ _ (S9.out) (by simp)).mono ?_
      rintro r u10 ⟨rfl, hst⟩
      have S10 := Lib.hid hst
      have A10 := Lib.hid (fun ob => hst.al ob)
      clear c0 c1 c2
      obtain ⟨c0, c1, c2⟩ := HC.out _ hst
      clear hst
      go_wp2_with fail
      refine (KM3Let.out _ _ (S10.out) (by simp)).mono ?_
      rintro r u11 ⟨rfl, hst⟩
      have S11 := Lib.hid hst
      have A11 := Lib.hid (fun ob => hst.al ob)
      clear c0 c1 c2
      obtain ⟨c0, c1, c2⟩ := HC.out _ hst
      clear hst
      go_wp2_with fail
      refine (KM3Drop.out _ _ (S11.out) (by simp)).mono ?_
      rintro r u12 ⟨rfl, hst⟩
      have S12 := Lib.hid hst
      have A12 := Lib.hid (fun ob => hst.al ob)
      clear c0 c1 c2
      obtain ⟨c0, c1, c2⟩ := HC.out _ hst
      clear hst
      go_wp2_with fail
      refine (KM4Drop.out _ _ (S12.out) (by simp)).mono ?_
      rintro r u13 ⟨rfl, hst⟩
      have S13 := Lib.hid hst
      have A13 := Lib.hid (fun ob => hst.al ob)
      clear c0 c1 c2
      obtain ⟨c0, c1, c2⟩ := HC.out _ hst
      clear hst
      unfold toldV blkV at KM4At
      go_wp2_with fail
      refine (KM4At.out _ (S13.out)).mono ?_
      rintro r u14 ⟨rfl, hst⟩
      have S14 := Lib.hid hst
      have A14 := Lib.hid (fun ob => hst.al ob)
      clear c0 c1 c2
      obtain ⟨c0, c1, c2⟩ := HC.out _ hst
      clear hst
      go_wp2_with fail
      refine (KM4Free.out _ (S14.out)).mono ?_
      rintro r u15 ⟨rfl, hst⟩
      have S15 := Lib.hid hst
      have A15 := Lib.hid (fun ob => hst.al ob)
      clear c0 c1 c2
      obtain ⟨c0, c1, c2⟩ := HC.out _ hst
      clear hst
      unfold blkV at KM4Add
      go_wp2_with fail
      refine (KM4Add.out _ (S15.out)).mono ?_
      rintro r u16 ⟨rfl, hst⟩
      have S16 := Lib.hid hst
      have A16 := Lib.hid (fun ob => hst.al ob)
      clear c0 c1 c2
      clear hst
      go_wp2_with fail
      refine (KM5All.out _ S16.out).mono ?_
      rintro r u17 ⟨a17, c17, rfl, hv, hst⟩
      have S17 := Lib.hid hst
      have SM := Lib.hid (same15 u17 hv (HV.out _ hst) (by omega) (by omega))
      rw [decide_eq_true rfl] at SM
      clear hv hst
      go_wp2_with fail
      refine SM.out.mono ?_
      rintro r u18 ⟨rfl, hb⟩
      have S18 := Lib.hid (S17.out.grew hb)
      clear hb
      go_wp2_with fail
      go_ret
      exact ⟨rfl, below_then B2.out B2.out.size S18.out.o.below⟩
    · have mt : t = 1 := by have := TMX.out; omega
      subst mt
      go_wp2_with fail
      refine (KLLet.out _ _ (S0.out) (by simp)).mono ?_
      rintro r u1 ⟨rfl, hst⟩
      have S1 := Lib.hid hst
      have A1 := Lib.hid (fun ob => hst.al ob)
      obtain ⟨c0, c1, c2⟩ := HC.out _ hst
      clear hst
      unfold toldV blkV at KM1At
      go_wp2_with fail
      refine (KM1At.out _ (S1.out)).mono ?_
      rintro r u2 ⟨rfl, hst⟩
      have S2 := Lib.hid hst
      have A2 := Lib.hid (fun ob => hst.al ob)
      have c0 : ∀ ob, (u2.alloc ob).cell? ⟨w4.heap.size, 0, none⟩ = some (.int .u64 (x : Int)) := fun ob => (HC.out _ (A2.out ob)).1
      have c1 : ∀ ob, (u2.alloc ob).cell? ⟨w4.heap.size, 1, none⟩ = some (.int .u64 (y : Int)) := fun ob => (HC.out _ (A2.out ob)).2.1
      have c2 : ∀ ob, (u2.alloc ob).cell? ⟨w4.heap.size, 2, none⟩ = some (.int .u64 (z : Int)) := fun ob => (HC.out _ (A2.out ob)).2.2
      clear hst
      have r0 : ∀ ob, ((u2.alloc (.cells #[.int .u64 (x : Int), .int .u64 (y : Int), .int .u64 (z : Int)] 35)).alloc ob).cell? ⟨w4.heap.size, 0, none⟩ = some (.int .u64 (x : Int)) := fun ob => (HC.out _ ((A2.out _).al ob)).1
      go_wp2_with fail
      refine (KM1Hold.out _ _ (A2.out _) (by simp)).mono ?_
      rintro r u3 ⟨rfl, hst⟩
      have S3 := Lib.hid hst
      have A3 := Lib.hid (fun ob => hst.al ob)
      clear c0 c1 c2 r0
      obtain ⟨c0, c1, c2⟩ := HC.out _ hst
      clear hst
      go_wp2_with fail
      refine (KM2Hold.out _ _ (S3.out) (by simp)).mono ?_
      rintro r u4 ⟨rfl, hst⟩
      have S4 := Lib.hid hst
      have A4 := Lib.hid (fun ob => hst.al ob)
      clear c0 c1 c2
      obtain ⟨c0, c1, c2⟩ := HC.out _ hst
      clear hst
      unfold toldV blkV at KM2At
      go_wp2_with fail
      refine (KM2At.out _ (S4.out)).mono ?_
      rintro r u5 ⟨rfl, hst⟩
      have S5 := Lib.hid hst
      have A5 := Lib.hid (fun ob => hst.al ob)
      clear c0 c1 c2
      obtain ⟨c0, c1, c2⟩ := HC.out _ hst
      clear hst
      unfold toldV blkV at KM2In
      go_wp2_with fail
      refine (KM2In.out _ (S5.out)).mono ?_
      rintro r u6 ⟨rfl, hst⟩
      have S6 := Lib.hid hst
      have A6 := Lib.hid (fun ob => hst.al ob)
      clear c0 c1 c2
      have c0 : ∀ ob, (u6.alloc ob).cell? ⟨w4.heap.size, 0, none⟩ = some (.int .u64 (x : Int)) := fun ob => (HC.out _ (A6.out ob)).1
      have c1 : ∀ ob, (u6.alloc ob).cell? ⟨w4.heap.size, 1, none⟩ = some (.int .u64 (y : Int)) := fun ob => (HC.out _ (A6.out ob)).2.1
      have c2 : ∀ ob, (u6.alloc ob).cell? ⟨w4.heap.size, 2, none⟩ = some (.int .u64 (z : Int)) := fun ob => (HC.out _ (A6.out ob)).2.2
      clear hst
      go_wp2_with fail
      refine (KM2Free.out _ (A6.out _)).mono ?_
      rintro r u7 ⟨rfl, hst⟩
      have S7 := Lib.hid hst
      have A7 := Lib.hid (fun ob => hst.al ob)
      clear c0 c1 c2
      obtain ⟨c0, c1, c2⟩ := HC.out _ hst
      clear hst
      unfold blkV at KM2Add
      go_wp2_with fail
      refine (KM2Add.out _ (S7.out)).mono ?_
      rintro r u8 ⟨rfl, hst⟩
      have S8 := Lib.hid hst
      have A8 := Lib.hid (fun ob => hst.al ob)
      clear c0 c1 c2
      obtain ⟨c0, c1, c2⟩ := HC.out _ hst
      clear hst
      go_wp2_with fail
      refine (KM2All.out _ S8.out).mono ?_
      rintro r u9 ⟨a9, c9, rfl, hst⟩
      have S9 := Lib.hid hst
      clear c0 c1 c2
      obtain ⟨c0, c1, c2⟩ := HC.out _ hst
      clear hst
      go_wp2_with fail
      refine (KM2Let.out _ _ (S9.out) (by simp)).mono ?_
      rintro r u10 ⟨rfl, hst⟩
      have S10 := Lib.hid hst
      have A10 := Lib.hid (fun ob => hst.al ob)
      clear c0 c1 c2
      obtain ⟨c0, c1, c2⟩ := HC.out _ hst
      clear hst
      go_wp2_with fail
      refine (KM3Let.out _ _ (S10.out) (by simp)).mono ?_
      rintro r u11 ⟨rfl, hst⟩
      have S11 := Lib.hid hst
      have A11 := Lib.hid (fun ob => hst.al ob)
      clear c0 c1 c2
      obtain ⟨c0, c1, c2⟩ := HC.out _ hst
      clear hst
      go_wp2_with fail
      refine (KM3Drop.out _ _ (S11.out) (by simp)).mono ?_
      rintro r u12 ⟨rfl, hst⟩
      have S12 := Lib.hid hst
      have A12 := Lib.hid (fun ob => hst.al ob)
      clear c0 c1 c2
      obtain ⟨c0, c1, c2⟩ := HC.out _ hst
      clear hst
      go_wp2_with fail
      refine (KM4Drop.out _ _ (S12.out) (by simp)).mono ?_
      rintro r u13 ⟨rfl, hst⟩
      have S13 := Lib.hid hst
      have A13 := Lib.hid (fun ob => hst.al ob)
      clear c0 c1 c2
      obtain ⟨c0, c1, c2⟩ := HC.out _ hst
      clear hst
      unfold toldV blkV at KM4At
      go_wp2_with fail
      refine (KM4At.out _ (S13.out)).mono ?_
      rintro r u14 ⟨rfl, hst⟩
      have S14 := Lib.hid hst
      have A14 := Lib.hid (fun ob => hst.al ob)
      clear c0 c1 c2
      obtain ⟨c0, c1, c2⟩ := HC.out _ hst
      clear hst
      go_wp2_with fail
      refine (KM4Free.out _ (S14.out)).mono ?_
      rintro r u15 ⟨rfl, hst⟩
      have S15 := Lib.hid hst
      have A15 := Lib.hid (fun ob => hst.al ob)
      clear c0 c1 c2
      obtain ⟨c0, c1, c2⟩ := HC.out _ hst
      clear hst
      unfold blkV at KM4Add
      go_wp2_with fail
      refine (KM4Add.out _ (S15.out)).mono ?_
      rintro r u16 ⟨rfl, hst⟩
      have S16 := Lib.hid hst
      have A16 := Lib.hid (fun ob => hst.al ob)
      clear c0 c1 c2
      clear hst
      go_wp2_with fail
      refine (KM5All.out _ S16.out).mono ?_
      rintro r u17 ⟨a17, c17, rfl, hv, hst⟩
      have S17 := Lib.hid hst
      have SM := Lib.hid (same15 u17 hv (HV.out _ hst) (by omega) (by omega))
      rw [decide_eq_true rfl] at SM
      clear hv hst
      go_wp2_with fail
      refine SM.out.mono ?_
      rintro r u18 ⟨rfl, hb⟩
      have S18 := Lib.hid (S17.out.grew hb)
      clear hb
      go_wp2_with fail
      go_ret
      exact ⟨rfl, below_then B2.out B2.out.size S18.out.o.below⟩
theorem walk (w : World) {a : Option Addr} {n cap : Nat} (len : Nat) (F : Nat → Nat → Value) (h : Recs w (.slice a n cap) ActL15 len F) (y : Int) (hy : (Lit.int .u8 y).wf = true) :
    Calls Try.prog 5 #[.slice a n cap, .int .u8 y] w fun e w' => e = .returned (.bool true) ∧ Below w.heap.size w w' := by
  have b2 := u8_bd hy
  obtain ⟨y, rfl⟩ := Int.eq_ofNat_of_zero_le b2.1
  exact walk_nat w len F h y (by omega)
end Go.Proofs.Ytklblmodpkhjnaa.ledgerHolds
