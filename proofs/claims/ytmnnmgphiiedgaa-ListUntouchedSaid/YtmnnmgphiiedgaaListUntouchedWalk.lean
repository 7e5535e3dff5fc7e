/- The law ListUntouched, walked. -/
import Derived.Test.YtmnnmgphiiedgaaUntouched
namespace Go.Proofs.Ytmnnmgphiiedgaa.listUntouched
open Go.RowKit Go.Maps ListMath
set_option linter.unusedVariables false

theorem key64 : Keyed Try.prog 28 := int_keyed Try.underlying28
/-- The map reads as f. -/
def Reads (D : DataW Unit) (f : Nat → Bool) : Prop := ∀ x : Nat, D.atKey (.int .u64 (x : Int)) (.lit (.bool false)) = .lit (.bool (f x))
theorem Reads.put {D : DataW Unit} {f f' : Nat → Bool} (h : Reads D f) (hD : IsMap D) (x : Nat) (hf : ∀ y, f' y = if y = x then true else f y) : Reads (D.put (.int .u64 (x : Int)) (.lit (.bool true))) f' := by
  intro y
  rw [hf y]
  by_cases hy : y = x
  · subst hy
    rw [atKey_put_same hD (by trivial), if_pos rfl]
  · rw [atKey_put_other (by intro e; injection e with _ e; omega), h y, if_neg hy]
def inLink (a k y : Nat) : Bool := decide (a ≤ y) && decide (y < a + k)
def Moving (w w5 : World) (p g lx ly n : Nat) (R L1 IN : List Nat) (hf : Nat) (i : Value) (wr : World) : Prop :=
  ∃ (j : Nat) (M : List Nat) (hx hy : Nat), j ≤ hf ∧ i = .int .i64 (j : Int) ∧ Two w p g lx ly M hx ((n - j : Nat) : Int) hy (j : Int) wr ∧ Chain M hx (R.drop j) ∧ Chain M hy (R.take j).reverse ∧ M.length = 2048 ∧ Wr IN L1 M ∧ Upd (fun b => b = g ∨ b = lx ∨ b = ly) w5 wr
def Linking (w8 : World) (b12 n : Nat) (IN : List Nat) (i : Value) (wr : World) : Prop :=
  ∃ (j : Nat) (D : DataW Unit), j ≤ n ∧ i = .int .i64 (j : Int) ∧ wr.ownsMap Try.prog 28 (plainElem Try.prog 4) b12 (8 * j) D ∧ Reads D (cov (IN.take j)) ∧ Below b12 w8 wr
def Link1 (w8 : World) (b12 j x : Nat) (IN : List Nat) (i : Value) (wr : World) : Prop :=
  ∃ (c : Nat) (D : DataW Unit), c ≤ 8 ∧ i = .int .u64 (c : Int) ∧ wr.ownsMap Try.prog 28 (plainElem Try.prog 4) b12 (8 * j + c) D ∧ Reads D (fun y => cov (IN.take j) y || inLink x c y) ∧ Below b12 w8 wr
theorem reads8_oneAt (w : World) (t : TypeId) (x g : Nat) (hg : g = w.heap.size) : Reads8 (w.alloc (.cells #[.int .u8 (x : Int)] t)) (.slice (some ⟨g, 0, none⟩) 1 1) [x] := by
  subst hg
  refine .inl ⟨w.heap.size, 0, 1, rfl, fun j hj => ?_⟩
  have hj0 : j = 0 := by simpa using hj
  subst hj0
  exact (Blk.new w t #[.int .u8 (x : Int)]).cell 0
theorem info8' : (Try.prog.info? 5).map (fun i => (i.zero, i.size, i.bytes)) = some (some (.int .u8 0), 1, 1) := by kernel_rfl
set_option maxRecDepth 100000 in
set_option maxHeartbeats 4000000 in
theorem walk_of (w : World) (C : Li w) {a : Option Addr} {nn cap : Nat} (l : List Int) (h : NumsAt w .u8 (.slice a nn cap) l) (fl : Int) (hfw : (Lit.int .u8 fl).wf = true) :
    Calls Try.prog 8 #[.slice a nn cap, .int .u8 fl] w fun e w' => e = .returned (.bool true) ∧ Below w.heap.size w w' := by
  obtain ⟨L, hB⟩ := h.bytesIn
  have HBY := Lib.hid hB
  obtain ⟨ef, hfr⟩ := u8_of hfw
  obtain ⟨f, hff⟩ : ∃ x, fl.toNat = x := ⟨_, rfl⟩
  rw [hff] at ef hfr
  subst ef
  obtain ⟨hg1, hg2⟩ := blocks_good (l := L) (n := 2048) (by decide)
  have hle := blocksN_le L
  obtain ⟨IN, hIN⟩ : ∃ x, blocksN L = x := ⟨_, rfl⟩
  obtain ⟨n, hn⟩ : ∃ x, IN.length = x := ⟨_, rfl⟩
  rw [hIN] at hg1 hg2 hle
  rw [hn] at hle
  have HIN := Lib.hid hIN; have HN := Lib.hid hn; have HG1 := Lib.hid hg1; have HG2 := Lib.hid hg2
  clear h hB hIN hn hg1 hg2 hff hfw
  go_enter Try.func8, Try.ntmps8
  go_wp2_with fail
  refine (alive_any _ C).mono ?_; rintro e w1 ⟨rfl, hb⟩
  have B1 := Lib.hid hb
  have s1 := B1.out.size
  clear hb
  go_wp2_with fail
  refine (new2048 _).mono ?_; rintro e w2 ⟨p, g, L0, rfl, hm, hL0, hlen, fp, fg, hb⟩
  have B2 := Lib.hid (below_then B1.out s1 hb)
  have M2 := Lib.hid hm
  have s2 := B2.out.size
  have hp : w.heap.size ≤ p := Nat.le_trans s1 fp
  have hg : w.heap.size ≤ g := Nat.le_trans s1 fg
  have HLEN := Lib.hid hlen
  have hgl := hm.row.lt
  clear hb hm hL0 hlen fp fg
  go_wp2_with fail
  refine (blocks_any w2 (HBY.out.below B2.out)).mono ?_; rintro e w3 ⟨v, rfl, hv, hin, hb⟩
  obtain ⟨a', cap', rfl, hc1, hc2⟩ := hv.slice'
  rw [HIN.out, HN.out] at hv hin hc1
  rw [HIN.out, HN.out]
  have V3 := Lib.hid hv; have N3 := Lib.hid hin
  have B3 := Lib.hid (below_then B2.out s2 hb)
  have s3 := B3.out.size
  have M3 := Lib.hid (M2.out.upd (updFalse_of hb) id id)
  have O3 := One.make M3.out hp hg B3.out
  obtain ⟨lp, hlp⟩ : ∃ b, w3.heap.size = b := ⟨_, rfl⟩
  rw [hlp] at O3
  obtain ⟨lq, hlq⟩ : ∃ b, lp + 1 = b := ⟨_, rfl⟩
  have T3 := Lib.hid (O3.two lq (by rw [← hlq, ← hlp]; simp))
  have V3A := Lib.hid ((V3.out.alloc (.cells #[.int .u64 0, .int .i64 0] 33)).alloc (.cells #[.int .u64 0, .int .i64 0] 33))
  have hg3 : g < lp := by have := M3.out.row.lt; omega
  have hnx : ∀ b, In (.slice a' n cap') b → b < lp ∧ b ≠ g := fun b hb => by
    have h1 := N3.out b hb
    have h2 := V3.out.lt hb
    omega
  have HNX := Lib.hid hnx
  have hlq' : lp < lq := by omega
  -- the fill
  obtain ⟨LF, hLF⟩ : ∃ x, splice L0 0 (MemMath.fill 2048 [f]) = x := ⟨_, rfl⟩
  have hfit : 0 + (MemMath.fill 2048 [f]).length ≤ L0.length := by rw [MemMath.length_fill, HLEN.out]; decide
  have lfl : LF.length = 2048 := by rw [← hLF, MemMath.length_splice' hfit, HLEN.out]
  have lff : ∀ i, i < 2048 → LF.getD i 0 = f := fun i hi => by
    rw [← hLF, MemMath.getD_splice hfit, MemMath.length_fill, if_pos (by omega), MemMath.fill_one, MemMath.getD_rep (by omega)]
  have LFL := Lib.hid lfl; have LFF := Lib.hid lff
  have FI : Hid (∀ w', Two w p g lp lq L0 0 0 0 0 w' → ∀ (ad : Option Addr), Reads8 w' (.slice ad 1 1) [f] → Calls Try.prog 29 #[.pointer (some ⟨p, 0, none⟩), .int .u64 0, .int .u64 2048, .slice ad 1 1] w' fun e w2 => e = .returned (.int .i64 0) ∧ Two w p g lp lq LF 0 0 0 0 w2 ∧ Upd (fun b => b = g) w' w2) := Lib.hid (fun w' t ad hr => by
    have := fill_any t.mem 0 2048 ad 1 [f] hr (by intro x hx; rw [List.mem_singleton.1 hx]; omega) (by simp) (by rw [HLEN.out]; decide)
    refine this.mono fun e w2 ⟨h1, h2, h3⟩ => ⟨h1, ?_, h3⟩
    have h4 : IsMem w2 p g (splice L0 0 (MemMath.fill 2048 [f])) := h2
    rw [hLF] at h4
    exact t.memTurn h4 h3)
  -- the push
  obtain ⟨g1, g2, g3, g4⟩ := pushN_good IN ⟨LF, 0, 0⟩ [] rfl (by show LF.length ≤ _; rw [lfl]; decide) (by intro a ha; show a ≠ 0 ∧ a + 8 ≤ LF.length; rw [lfl]; exact HG1.out a ha) (by intro a _ b hb; cases hb) HG2.out
  have PU : Hid (∀ w', Two w p g lp lq LF 0 0 0 0 w' → Seq Elem.u64s w' (.slice a' n cap') IN → Calls Try.prog 24 #[.pointer (some ⟨lp, 0, none⟩), .pointer (some ⟨p, 0, none⟩), .slice a' n cap'] w' fun e w2 => e = .returned (.int .i64 0) ∧ Two w p g lp lq (pushN ⟨LF, 0, 0⟩ IN).1.L (pushN ⟨LF, 0, 0⟩ IN).1.h (pushN ⟨LF, 0, 0⟩ IN).1.n 0 0 w2 ∧ Upd (fun b => b = g ∨ b = lp) w' w2) := Lib.hid (fun w' t hq =>
    t.pushX C hq (fun b hb => by have := HNX.out b hb; omega) hc1 hc2 (r := []) rfl (by rw [LFL.out]; decide) (by rw [LFL.out]; exact HG1.out) (by intro a _ b hb; cases hb) HG2.out (by decide) (by rw [HN.out]; omega))
  have hwr := Wr.push (IN := IN) IN ⟨LF, 0, 0⟩ (fun a ha => ha)
  obtain ⟨⟨L1, hd, n1⟩, hs⟩ : ∃ s, (pushN ⟨LF, 0, 0⟩ IN).1 = s := ⟨_, rfl⟩
  rw [hs] at g2 g3 g4 PU hwr
  rw [List.append_nil] at g2
  simp only [] at g2 g3 g4 PU hwr
  have hn1 : n1 = (n : Int) := by rw [g3, HN.out]; omega
  subst hn1
  obtain ⟨R, hR⟩ : ∃ R, IN.reverse = R := ⟨_, rfl⟩
  rw [hR] at g2
  have hrl : R.length = n := by rw [← hR, List.length_reverse, HN.out]
  have hrp : R.Pairwise Apart8 := by
    rw [← hR, List.pairwise_reverse]
    exact HG2.out.imp apart_symm
  have hr8 : ∀ a ∈ R, a ≠ 0 ∧ a + 8 ≤ 2048 := fun a ha => by rw [← hR] at ha; exact HG1.out a (List.mem_reverse.1 ha)
  have hri : ∀ a ∈ R, a ∈ IN := fun a ha => by rw [← hR] at ha; exact List.mem_reverse.1 ha
  have HCH := Lib.hid g2; have HL1 : Hid (L1.length = 2048) := Lib.hid (g4.trans lfl); have HWR := Lib.hid hwr
  have HRL := Lib.hid hrl; have HRP := Lib.hid hrp; have HR8 := Lib.hid hr8; have HRI := Lib.hid hri
  clear hb hv hin hnx lfl lff hLF hfit g1 g2 g3 g4 hs hwr hR hrl hrp hr8 hri O3
  have hg8 : w3.heap.size + 2 = ((w3.alloc (.cells #[.int .u64 0, .int .i64 0] 33)).alloc (.cells #[.int .u64 0, .int .i64 0] 33)).heap.size := by simp
  have HG8 := Lib.hid hg8
  clear hg8
  go_wp2_with fail
  obtain ⟨W3, hW3⟩ : ∃ W, (w3.alloc (.cells #[.int .u64 0, .int .i64 0] 33)).alloc (.cells #[.int .u64 0, .int .i64 0] 33) = W := ⟨_, rfl⟩
  rw [hW3] at T3 V3A HG8 ⊢
  clear hW3
  refine (FI.out _ (T3.out.grew ((Below.refl _ W3).alloc (Nat.le_refl _) _)) _ (reads8_oneAt W3 _ f _ (by have := HG8.out; omega))).mono ?_
  rintro e w4 ⟨rfl, ht, hu⟩
  have T4 := Lib.hid ht
  have V4 := Lib.hid ((V3A.out.alloc _).upd hu (fun b hb e => (HNX.out b hb).2 e))
  clear ht hu HG8
  go_wp2_with fail
  refine (PU.out _ T4.out V4.out.seq).mono ?_; rintro e w5 ⟨rfl, ht, hu⟩
  have T5 := Lib.hid ht
  have V5 := Lib.hid (V4.out.upd hu (fun b hb e => by have := HNX.out b hb; rcases e with e | e <;> omega))
  have hg5 : g < w5.heap.size := T5.out.mem.row.lt
  have hx5 : lp < w5.heap.size := T5.out.bx.lt
  have hy5 : lq < w5.heap.size := T5.out.by'.lt
  obtain ⟨hf, hhf⟩ : ∃ x, n / 2 = x := ⟨_, rfl⟩
  have q1 : Int.tdiv (n : Int) 2 = (hf : Int) := by rw [← hhf]; exact (Int.ofNat_tdiv _ _).symm
  have q1' : (n : Int) / 2 = (hf : Int) := by omega
  have hfn : hf ≤ n := by omega
  clear ht hu FI PU hhf
  go_wp2
  clear q1 q1'
  go_loopw [46] (fun i wr => Moving w w5 p g lp lq n R L1 IN hf i wr) (fun i _ => hf - (intOf i).toNat)
  case atStart => exact ⟨0, L1, hd, 0, Nat.zero_le _, rfl, T5.out, HCH.out, rfl, HL1.out, Wr.refl _ _, Upd.refl _ _⟩
  case round =>
    obtain ⟨j, M, hx, hy, hj, rfl, ht, cX, cY, hM, hw, hu⟩ := hrel
    have TR := Lib.hid ht; have CX := Lib.hid cX; have CY := Lib.hid cY; have HM := Lib.hid hM; have HW := Lib.hid hw; have UR := Lib.hid hu
    clear ht cX cY hM hw hu
    by_cases hjl : j < hf
    · obtain ⟨x, h2, M', h3, hxb, r1, r2, r3, r4, r5, r6⟩ := moved_one C HRP.out HR8.out HRI.out HRL.out (by omega) (show j < n by omega) HM.out CX.out CY.out
      have R1 := Lib.hid r1; have R2 := Lib.hid r2; have R3 := Lib.hid r3; have R4 := Lib.hid (HW.out.trans r4)
      have R5 := Lib.hid (fun (w' : World) (t : Two w p g lp lq M hx ((n - j : Nat) : Int) hy (j : Int) w') => r5 w' t)
      have R6 := Lib.hid (fun (w' : World) (t : Two w p g lp lq M h2 ((n - (j + 1) : Nat) : Int) hy (j : Int) w') => r6 w' t)
      have t0 : decide ((j : Int) < (hf : Int)) = true := decide_eq_true (by omega)
      have t0' : decide (j < hf) = true := decide_eq_true (by omega)
      clear r1 r2 r3 r4 r5 r6
      go_wp2_with fail
      refine (R5.out _ TR.out).mono ?_; rintro e w6 ⟨rfl, ht, hu⟩
      have T6 := Lib.hid ht
      have U6 := Lib.hid (UR.out.trans (hu.mono (fun b hb => Or.inr (Or.inl hb))))
      clear ht hu
      have hly : lq < w6.heap.size := T6.out.by'.lt
      have hgy : g < w6.heap.size := T6.out.mem.row.lt
      go_wp2_with fail
      refine (R6.out _ (T6.out.grew ((Below.refl _ w6).alloc (Nat.le_refl _) _)) _ (u64_oneAt w6 _ x _ rfl) (fun b hb => by have := in_blk hb; omega)).mono ?_
      rintro e w7 ⟨rfl, ht, hu⟩
      have T7 := Lib.hid ht
      have U7 := Lib.hid ((U6.out.alloc _).trans (hu.mono (fun b hb => by rcases hb with hb | hb; exact Or.inl hb; exact Or.inr (Or.inr hb))))
      clear ht hu
      go_wp2
      go_roundw
      case rel => exact ⟨j + 1, M', h2, h3, by omega, by go_num, T7.out, R1.out, R2.out, R3.out, R4.out, U7.out⟩
      case measure => simp [intOf]; omega
    · obtain rfl : j = hf := by omega
      have t0 : decide ((j : Int) < (j : Int)) = false := decide_eq_false (by omega)
      have hsplit := HRP.out
      rw [← List.take_append_drop j R] at hsplit
      obtain ⟨p1, p2, p3⟩ := List.pairwise_append.1 hsplit
      have ltk : (R.take j).reverse.length = j := by rw [List.length_reverse, List.length_take, HRL.out]; omega
      have ldr : (R.drop j).length = n - j := by rw [List.length_drop, HRL.out]
      obtain ⟨M2', z2, m1, m2, m3⟩ := Two.join2 C CX.out CY.out (fun a ha b hb => p3 a (List.mem_reverse.1 ha) b hb) (by rw [List.pairwise_reverse]; exact p1.imp apart_symm) (by rw [HM.out]; decide) (ny := (j : Int)) (by rw [ltk]) (by rw [ltk, HM.out]; omega) (nx := ((n - j : Nat) : Int)) (by rw [ldr]) (by rw [ldr]; omega)
      have lall : ((R.take j).reverse ++ R.drop j).length = n := by rw [List.length_append, ltk, ldr]; omega
      rw [lall] at m3
      have hwr2 := HW.out.trans (m2.mono (fun a ha => HRI.out a (List.mem_of_mem_take (List.mem_reverse.1 ha))))
      have J1 : Hid (M2'.length = 2048) := Lib.hid (m1.trans HM.out); have J2 := Lib.hid hwr2
      have J3 := Lib.hid (fun (w' : World) (t : Two w p g lp lq M hx ((n - j : Nat) : Int) hy (j : Int) w') => m3 w' t)
      clear hsplit p1 p2 p3 ltk ldr m1 m2 m3 lall hwr2
      go_wp2_with fail
      refine (J3.out _ TR.out).mono ?_; rintro e w8 ⟨rfl, ht, hu⟩
      have T8 := Lib.hid ht
      have U8 := Lib.hid (UR.out.trans hu)
      have V8 := Lib.hid (V5.out.upd U8.out (fun b hb e => by have := HNX.out b hb; rcases e with e | e | e <;> omega))
      obtain ⟨b12, hb12⟩ : ∃ b, w8.heap.size = b := ⟨_, rfl⟩
      have HB12 := Lib.hid hb12
      have hmm := @run_makeMap Try.prog
      clear ht hu
      go_wp2
      clear hmm hb12
      have hdone : True := trivial
      go_loopw [69] (fun i wr => Linking w8 b12 n IN i wr) (fun i _ => n - (intOf i).toNat)
      case atStart =>
        refine ⟨0, .map [], Nat.zero_le _, rfl, ?_, fun x => rfl, ?_⟩
        · rw [← HB12.out]; exact World.ownsMap_made _ _ _ _
        · exact ((Below.refl _ w8).alloc (Nat.le_refl _) _).mono (by rw [HB12.out]; exact Nat.le_refl _)
      case round =>
        obtain ⟨k, D, hk, rfl, hmap, hrd, hb⟩ := hrel
        have MAP := Lib.hid hmap; have RD := Lib.hid hrd; have BK := Lib.hid hb
        clear hmap hrd hb
        by_cases hkn : k < n
        · obtain ⟨x, hx⟩ : ∃ x, IN[k]? = some x := ⟨IN[k]'(by rw [HN.out]; exact hkn), List.getElem?_eq_getElem _⟩
          obtain ⟨b2, off2, rfl, hcell⟩ := (V8.out.seq.below (by rw [HB12.out]; exact Nat.le_refl _) BK.out).elem hx
          have d0 := hcell 0 (.int .u64 (x : Int)) rfl
          simp only [Elem.u64s, Nat.add_zero, Nat.mul_one] at d0
          have hx8 := (HG1.out x (List.mem_of_getElem? hx)).2
          have HX := Lib.hid hx
          have t1 : decide ((k : Int) < (n : Int)) = true := decide_eq_true (by omega)
          have t1' : decide (k < n) = true := decide_eq_true (by omega)
          have k0 : (0 : Int) ≤ (k : Int) := by omega
          have k1 : (k : Int) < (n : Int) := by omega
          clear hcell hx
          go_wp2
          clear d0
          go_loopw [73] (fun i wr => Link1 w8 b12 k x IN i wr) (fun i _ => 8 - (intOf i).toNat)
          case atStart =>
            refine ⟨0, D, Nat.zero_le _, rfl, MAP.out, fun y => ?_, BK.out⟩
            rw [RD.out y]
            show DataW.lit (Lit.bool (cov (IN.take k) y)) = DataW.lit (Lit.bool (cov (IN.take k) y || inLink x 0 y))
            rw [show inLink x 0 y = false by unfold inLink; rw [Bool.and_eq_false_iff]; by_cases h : x ≤ y; exact Or.inr (decide_eq_false (by omega)); exact Or.inl (decide_eq_false h), Bool.or_false]
          case round =>
            obtain ⟨c, D2, hc, rfl, hmap, hrd, hb⟩ := hrel
            have MAP2 := Lib.hid hmap; have RD2 := Lib.hid hrd; have BC := Lib.hid hb
            clear hmap hrd hb
            by_cases hc8 : c < 8
            · have t2 : decide ((c : Int) < 8) = true := decide_eq_true (by omega)
              obtain ⟨xc, hxc⟩ : ∃ y, x + c = y := ⟨_, rfl⟩
              have e1 : (x : Int) + (c : Int) = (xc : Int) := by omega
              have hwf : (Lit.int .u64 (xc : Int)).wf = true := by simp [Lit.wf, IntKind.min, IntKind.max, IntKind.signed, IntKind.bits]; omega
              have HKEY := Lib.hid (keyOf_int_mk (P := Try.prog) Try.underlying28 hwf)
              have HXC := Lib.hid hxc
              obtain ⟨m', hm'⟩ : ∃ y, 8 * k + c = y := ⟨_, rfl⟩
              rw [hm'] at MAP2
              have hml : m' < 2000 := by omega
              have HM' := Lib.hid hm'
              clear hwf hxc hm'
              go_wp2_with (at_mapUpdate; refine wpList_mapUpdate_own _ rfl _ _ _ 70 rfl 28 4 key64 Try.underlying70 _ b12 m' D2 rfl MAP2.out (by unfold maxLen; omega) _ _ _ rfl rfl HKEY.out _ [] (plainElem_bool Try.underlying4 true) ?_; intro w9 hown1 hgrow1; have M9 := Lib.hid hown1; have U9 := Lib.hid (upd_grownBy hgrow1); clear hown1 hgrow1)
              have B9 := Lib.hid (BC.out.trans (U9.out.below (B := b12) (fun k hk => by omega) (Nat.le_of_lt MAP2.out.lt)))
              go_roundw
              case rel =>
                refine ⟨c + 1, D2.put (.int .u64 (xc : Int)) (.lit (.bool true)), by omega, by go_num, ?_, ?_, B9.out⟩
                · rw [show 8 * k + (c + 1) = m' + 1 by have := HM'.out; omega]; exact M9.out
                · refine RD2.out.put MAP2.out.isMap xc (fun y => ?_)
                  have hxc := HXC.out
                  show (cov (IN.take k) y || inLink x (c + 1) y) = if y = xc then true else (cov (IN.take k) y || inLink x c y)
                  by_cases hy : y = xc
                  · rw [if_pos hy, show inLink x (c + 1) y = true by unfold inLink; simp; omega, Bool.or_true]
                  · rw [if_neg hy, show inLink x (c + 1) y = inLink x c y by unfold inLink; rw [Bool.eq_iff_iff]; simp; omega]
              case measure => simp [intOf]; omega
            · obtain rfl : c = 8 := by omega
              have t2 : decide (((8 : Nat) : Int) < 8) = false := by decide
              go_wp2
              go_roundw
              case rel =>
                refine ⟨k + 1, D2, by omega, by go_num, ?_, fun y => ?_, BC.out⟩
                · rw [show 8 * (k + 1) = 8 * k + 8 by omega]; exact MAP2.out
                · rw [cov_snoc HX.out]; exact RD2.out y
              case measure => simp [intOf]; omega
        · obtain rfl : k = n := by omega
          have t1 : decide ((k : Int) < (k : Int)) = false := decide_eq_false (by omega)
          have htk : IN.take k = IN := by rw [← HN.out, List.take_length]
          rw [htk] at RD
          have BK8 : Below w8.heap.size w8 wr := by rw [HB12.out]; exact BK.out
          have T9 := Lib.hid (T8.out.grew BK8)
          have hgot := get_ok T9.out.mem 0 2048 (by rw [J1.out]; decide)
          have hpa : MemMath.part M2' 0 2048 = M2' := by rw [← J1.out]; exact MemMath.part_all M2'
          rw [hpa] at hgot
          unfold Got at hgot
          rw [J1.out] at hgot
          have GT := Lib.hid hgot
          clear htk BK8 hgot hpa
          go_wp2_with fail
          refine GT.out.mono ?_; rintro e w10 ⟨bg, z, rfl, hbytes, hbg, hu⟩
          have TA := Lib.hid (T9.out.grew (hu.below (B := wr.heap.size) (fun _ h => h.elim) (Nat.le_refl _)))
          have MA := Lib.hid (ownsMap_upd MAP.out hu id)
          have BY := Lib.hid hbytes
          have hgl' := TA.out.mem.row.lt
          clear hbytes hu
          go_wp2
          go_loop [89] (fun i => ∃ c : Nat, c ≤ 2048 ∧ i = .int .i64 (c : Int)) (fun i => 2048 - (intOf i).toNat)
          case atStart => exact ⟨0, Nat.zero_le _, rfl⟩
          case round =>
            obtain ⟨c, hc, rfl⟩ := hrel
            by_cases hc2 : c < 2048
            · have t2 : decide ((c : Int) < 2048) = true := decide_eq_true (by omega)
              have d0 := BY.out.cell c (by rw [List.length_append, J1.out]; omega)
              have hv : (M2' ++ List.replicate z 0).getD c 0 = M2'.getD c 0 := by simp only [List.getD_eq_getElem?_getD]; rw [List.getElem?_append_left (by rw [J1.out]; exact hc2)]
              rw [hv] at d0
              obtain ⟨v, hv'⟩ : ∃ v, M2'.getD c 0 = v := ⟨_, rfl⟩
              rw [hv'] at d0
              have c0 : (0 : Int) ≤ (c : Int) := by omega
              have w1' : IntKind.u64.wrap (c : Int) = (c : Int) := u64_in _ ⟨by omega, by omega⟩
              have hwf : (Lit.int .u64 (c : Int)).wf = true := by simp [Lit.wf, IntKind.min, IntKind.max, IntKind.signed, IntKind.bits]; omega
              have HKEY := Lib.hid (keyOf_int_mk (P := Try.prog) Try.underlying28 hwf)
              cases hcv : cov IN c with
              | true =>
                have HAT := Lib.hid (RD.out c)
                rw [hcv] at HAT
                clear hv hv' hwf hcv
                go_wp2_with (at_lookup; refine wpList_lookup_own_bool _ rfl (.tmp 94) (.tmp 96) 70 rfl 28 4 key64 Try.underlying70 Try.underlying4 (zeroB _) b12 _ D rfl MA.out _ (.int .u64 (c : Int)) rfl HKEY.out true HAT.out ?_)
                go_round
                case rel => exact ⟨c + 1, by omega, by go_num⟩
                case measure => simp [intOf]; omega
              | false =>
                have hvf : v = f := by rw [← hv', J2.out.2 c hcv, HWR.out.2 c hcv, LFF.out c hc2]
                subst hvf
                have tf : ((v : Int) != (v : Int)) = false := by simp
                have HAT := Lib.hid (RD.out c)
                rw [hcv] at HAT
                clear hv hv' hwf hcv
                go_wp2_with (at_lookup; refine wpList_lookup_own_bool _ rfl (.tmp 94) (.tmp 96) 70 rfl 28 4 key64 Try.underlying70 Try.underlying4 (zeroB _) b12 _ D rfl MA.out _ (.int .u64 (c : Int)) rfl HKEY.out false HAT.out ?_)
                go_round
                case rel => exact ⟨c + 1, by omega, by go_num⟩
                case measure => simp [intOf]; omega
            · obtain rfl : c = 2048 := by omega
              have t2 : decide (((2048 : Nat) : Int) < 2048) = false := by decide
              have c1 : w10.cell? ⟨lp, 1, none⟩ = some (.int .i64 (k : Int)) := TA.out.bx.cell 1
              have tn : ((k : Int) == (k : Int)) = true := by simp
              go_wp2
              go_ret
              exact ⟨rfl, TA.out.below⟩
end Go.Proofs.Ytmnnmgphiiedgaa.listUntouched
