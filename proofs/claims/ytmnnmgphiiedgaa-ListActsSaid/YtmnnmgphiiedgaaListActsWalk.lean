/- The law ListActs, walked. -/
import Derived.Test.YtmnnmgphiiedgaaActs7b
import Derived.Test.YtmnnmgphiiedgaaAlive7
import Derived.Test.YtmnnmgphiiedgaaList7
import Derived.Deep.RegionHeld3
import Derived.Deep.DeepCutAuto
namespace Go.Proofs.Ytmnnmgphiiedgaa.listActs
open Go.RowKit ListMath
set_option linter.unusedVariables false

theorem i64_bd {n : Int} (h : (Lit.int .i64 n).wf = true) : -9223372036854775808 ≤ n ∧ n ≤ 9223372036854775807 := by
  simp [Lit.wf, IntKind.min, IntKind.max, IntKind.signed, IntKind.bits] at h; omega
def Acting (w : World) (p g q h b7 b8 len : Nat) (i : Value) (wr : World) : Prop :=
  ∃ j : Nat, j ≤ len ∧ i = .int .i64 (j : Int) ∧ ∃ (A : St2) (bc : Nat) (act : Array Value) (t : TypeId), Good2 A (100 * (j : Int)) ∧ BL w p g q h b7 b8 bc act t A A wr
theorem BL.next {w : World} {p g q h b7 b8 bc : Nat} {act : Array Value} {t : TypeId} {A B : St2} {w' : World} (s : BL w p g q h b7 b8 bc act t A B w') (act' : Array Value) (t' : TypeId) {b10 : Nat} (hb : w'.heap.size = b10) : BL w p g q h b7 b8 b10 act' t' A B (w'.alloc (.cells act' t')) := by
  subst hb
  have s2 := s.grew ((Below.refl _ w').alloc (Nat.le_refl _) (.cells act' t'))
  have l7 := (s.l 0 (by omega)).lt; have l8 := (s.k 0 (by omega)).lt; have lg := s.mem.row.lt; have lh := s.ref.row.lt
  have hf := s.fp; have hsz := s.below.size
  exact ⟨s2.mem, s2.ref, s2.l, s2.k, Blk.new w' t' act', ⟨hf.1, hf.2.1, hf.2.2.1, hf.2.2.2.1, hf.2.2.2.2.1, hf.2.2.2.2.2.1, hsz⟩, ⟨s.d7.1, s.d7.2.1, s.d7.2.2.1, s.d7.2.2.2.1, s.d7.2.2.2.2.1, by omega⟩, ⟨s.d8.1, s.d8.2.1, s.d8.2.2.1, s.d8.2.2.2.1, by omega⟩, ⟨s.dg.1, s.dg.2.1, by omega, s.dg.2.2.2.1, by omega⟩, s2.below⟩
theorem act7 {w : World} {a : Option Addr} {n cap len : Nat} {F : Nat → Nat → Value} (h : Recs w (.slice a n cap) [.num .i64, .num .i64, .num .i64, .nums .u64, .num .u64] len F) {i : Nat} (hi : i < len) :
    ∃ b off x y z, ∃ (a0 : Option Addr) (k c : Nat) (X : Nat) (l : List Nat), a = some ⟨b, off, none⟩ ∧ (∀ w', Below w.heap.size w w' → w'.cell? ⟨b, off + i * 5, none⟩ = some (.int .i64 x) ∧ w'.cell? ⟨b, off + i * 5 + 1, none⟩ = some (.int .i64 y) ∧ w'.cell? ⟨b, off + i * 5 + 2, none⟩ = some (.int .i64 z) ∧ w'.cell? ⟨b, off + i * 5 + 3, none⟩ = some (.slice a0 k c) ∧ w'.cell? ⟨b, off + i * 5 + 4, none⟩ = some (.int .u64 (X : Int))) ∧
      (-9223372036854775808 ≤ x ∧ x ≤ 9223372036854775807) ∧ (-9223372036854775808 ≤ y ∧ y ≤ 9223372036854775807) ∧ (-9223372036854775808 ≤ z ∧ z ≤ 9223372036854775807) ∧ X ≤ 18446744073709551615 ∧ k = l.length ∧ k ≤ c ∧ c ≤ 9223372036854775807 ∧ Seq Elem.u64s w (.slice a0 k c) l ∧ (∀ x ∈ l, x ≤ 18446744073709551615) ∧ (0 < k → ∀ b, In (.slice a0 k c) b → b < w.heap.size) := by
  obtain ⟨b, off, rfl, hc⟩ := h.elem hi
  have c0 := hc 0 (by simp)
  have c1 := hc 1 (by simp)
  have c2 := hc 2 (by simp)
  have c3 := hc 3 (by simp)
  have c4 := hc 4 (by simp)
  have l0 := leaf_int (h.leaf hi 0 _ rfl)
  have l1 := leaf_int (h.leaf hi 1 _ rfl)
  have l2 := leaf_int (h.leaf hi 2 _ rfl)
  have l3 := h.leaf hi 3 _ rfl
  have l4 := leaf_int (h.leaf hi 4 _ rfl)
  obtain ⟨lf, hl⟩ := l3
  obtain ⟨a0, k, c, l, e, x1, x2, x3, x4, x5, x6⟩ := hl.seqU
  rw [l0.1] at c0
  rw [l1.1] at c1
  rw [l2.1] at c2
  rw [e] at c3
  rw [l4.1, (u64_of' l4.2).1] at c4
  exact ⟨b, off, _, _, _, a0, k, c, _, l, rfl, fun w' hb => ⟨cell_later c0 (Nat.le_refl _) hb, cell_later c1 (Nat.le_refl _) hb, cell_later c2 (Nat.le_refl _) hb, cell_later c3 (Nat.le_refl _) hb, cell_later c4 (Nat.le_refl _) hb⟩, i64_bd l0.2, i64_bd l1.2, i64_bd l2.2, (u64_of' l4.2).2, x1, x2, x3, x4, x5, x6⟩
theorem bit_one (y : Int) : ∃ i : Nat, i ≤ 1 ∧ bits .and .i64 y 1 = (i : Int) := by
  refine ⟨(BitVec.ofInt 64 y).toNat % 2, by omega, ?_⟩
  have e : ((BitVec.ofInt 64 y) &&& (BitVec.ofInt 64 1)).toNat = (BitVec.ofInt 64 y).toNat % 2 := by
    rw [BitVec.toNat_and]
    show (BitVec.ofInt 64 y).toNat &&& 1 = _
    exact Nat.and_one_is_mod _
  show IntKind.i64.wrap ((((BitVec.ofInt 64 y) &&& (BitVec.ofInt 64 1)).toNat : Nat) : Int) = _
  rw [e]
  exact IntWalk.i64_in _ ⟨by omega, by omega⟩
set_option maxRecDepth 100000 in
set_option maxHeartbeats 16000000 in
theorem walk_short (w : World) (C : LiG w) {a : Option Addr} {len cap : Nat} (F : Nat → Nat → Value) (h : Recs w (.slice a len cap) [.num .i64, .num .i64, .num .i64, .nums .u64, .num .u64] len F) (hl : len ≤ 60) :
    Calls Try.prog 3 #[.slice a len cap] w fun e w' => e = .returned (.bool true) ∧ Below w.heap.size w w' := by
  have H := Lib.hid h
  have t0 : decide ((60 : Int) < (len : Int)) = false := decide_eq_false (by omega)
  clear h
  go_enter Try.func3, Try.ntmps3
  go_wp2_with fail
  refine (alive_any _ (li_of C)).mono ?_; rintro e w1 ⟨rfl, hb⟩
  have B1 := Lib.hid hb
  have s1 := hb.size
  clear hb
  go_wp2_with fail
  refine (new2048 _).mono ?_; rintro e w2 ⟨p, g, L0, rfl, hm, hL0, hlen, fp, fg, hb⟩
  have B2 := Lib.hid (below_then B1.out s1 hb)
  have s2 := B2.out.size
  have M2 := Lib.hid hm
  have HLEN := Lib.hid hlen; have HL0 := Lib.hid hL0
  have hp : w.heap.size ≤ p := Nat.le_trans s1 fp
  have hg : w.heap.size ≤ g := Nat.le_trans s1 fg
  clear hb hm hlen hL0 fp fg
  go_wp2_with fail
  refine (ref_new 2048 (by decide) (by decide) (by decide) w2).mono ?_; rintro e w3 ⟨q, h, rfl, hR, fq, fh, hu⟩
  rw [← HL0.out] at hR
  have hb : Below w2.heap.size w2 w3 := hu.below (fun _ h => h.elim) (Nat.le_refl _)
  have B3 := below_then B2.out s2 hb
  have m3 := M2.out.upd hu id id
  have lp := M2.out.head.lt; have lg := M2.out.row.lt
  have hne := M2.out.ne
  have hq := hR.ne
  have lq := hR.head.lt; have lh := hR.row.lt
  have s3 := hb.size
  have ST0 : BL w p g q h w3.heap.size (w3.heap.size + 1) p #[.slice (some ⟨g, 0, none⟩) L0.length L0.length] 75 ⟨L0, fun _ => 0, fun _ => 0⟩ ⟨L0, fun _ => 0, fun _ => 0⟩ ((w3.alloc (.cells #[.int .u64 0, .int .i64 0, .int .u64 0, .int .i64 0] 34)).alloc (.cells #[.int .u64 0, .int .i64 0, .int .u64 0, .int .i64 0] 36)) := by
    have k7 := (Blk.new w3 34 #[.int .u64 0, .int .i64 0, .int .u64 0, .int .i64 0]).alloc (.cells #[.int .u64 0, .int .i64 0, .int .u64 0, .int .i64 0] 36)
    have k8 := Blk.new (w3.alloc (.cells #[.int .u64 0, .int .i64 0, .int .u64 0, .int .i64 0] 34)) 36 #[.int .u64 0, .int .i64 0, .int .u64 0, .int .i64 0]
    rw [show (w3.alloc (.cells #[.int .u64 0, .int .i64 0, .int .u64 0, .int .i64 0] 34)).heap.size = w3.heap.size + 1 by simp] at k8
    have bb := below_alloc2 (Below.refl w3.heap.size w3) (Nat.le_refl _) (.cells #[.int .u64 0, .int .i64 0, .int .u64 0, .int .i64 0] 34) (.cells #[.int .u64 0, .int .i64 0, .int .u64 0, .int .i64 0] 36)
    have s3w : w.heap.size ≤ w3.heap.size := B3.size
    refine ⟨m3.upd (updFalse_of bb) id id, hR.upd (updFalse_of bb) id id, fun i hi => ?_, fun i hi => ?_, (m3.upd (updFalse_of bb) id id).head, ⟨hp, hg, Nat.le_trans s2 fq, Nat.le_trans s2 fh, by omega, by omega, hp⟩, ⟨by omega, by omega, by omega, by omega, by omega, by omega⟩, ⟨by omega, by omega, by omega, by omega, by omega⟩, ⟨by omega, by omega, fun e => hne e.symm, by omega, by omega⟩, below_then B3 B3.size bb⟩
    · have : i = 0 ∨ i = 1 := by omega
      rcases this with rfl | rfl
      · exact ⟨_, _, k7, rfl, rfl⟩
      · exact ⟨_, _, k7, rfl, rfl⟩
    · have : i = 0 ∨ i = 1 := by omega
      rcases this with rfl | rfl
      · exact ⟨_, _, k8, rfl, rfl⟩
      · exact ⟨_, _, k8, rfl, rfl⟩
  obtain ⟨b7, hb7⟩ : ∃ b, w3.heap.size = b := ⟨_, rfl⟩
  rw [hb7] at ST0
  obtain ⟨b8, hb8⟩ : ∃ b, b7 + 1 = b := ⟨_, rfl⟩
  rw [hb8] at ST0
  have ST0 := Lib.hid ST0
  have G0 : Good2 ⟨L0, fun _ => 0, fun _ => 0⟩ (100 * ((0 : Nat) : Int)) := ⟨HLEN.out, fun _ _ => by show 0 ≤ _; omega, fun _ _ => Int.le_refl _, by show (0 : Int) + 0 ≤ _; omega⟩
  have G0 := Lib.hid G0
  clear hb hR fq fh hu B3 m3 lp lg hne hq lq lh s3 hp hg
  go_wp2
  clear hb7 hb8 t0
  go_loopw [48] (fun i wr => Acting w p g q h b7 b8 len i wr) (fun i _ => len - (intOf i).toNat)
  case atStart => exact ⟨0, Nat.zero_le _, rfl, _, _, _, _, G0.out, ST0.out⟩
  case round =>
    obtain ⟨j, hj, rfl, A, bc0, act0, ty0, hG, hs⟩ := hrel
    have S4 := Lib.hid hs
    have G := Lib.hid hG
    clear hs hG
    by_cases hlt : j < len
    · obtain ⟨b, off, x, y, z, a0, k, c, X, l, rfl, hlat, hx, hy, hz, hX, hkl, hkc, hcm, hseq, hlx, hlin⟩ := act7 H.out hlt
      obtain ⟨c0, c1, c2, c3, c4⟩ := hlat _ S4.out.below
      obtain ⟨i, hi, hbit⟩ := bit_one y
      obtain ⟨bc, hbc⟩ : ∃ b, wr.heap.size = b := ⟨_, rfl⟩
      have ST := Lib.hid (BL.next S4.out #[.int .i64 x, .int .i64 y, .int .i64 z, .slice a0 k c, .int .u64 (X : Int)] 39 hbc)
      have SQ := Lib.hid hseq; have LX := Lib.hid hlx; have LIN := Lib.hid hlin
      have HKL := Lib.hid hkl
      have q2 : decide ((j : Int) < (len : Int)) = true := decide_eq_true (by omega)
      have q2' : decide (j < len) = true := decide_eq_true hlt
      have q3 : (0 : Int) ≤ (j : Int) := by omega
      have q4 : (j : Int) < (len : Int) := by omega
      clear hlat hseq hlx hlin hkl
      by_cases hk100 : 100 < k
      · have t1 : decide ((100 : Int) < (k : Int)) = true := decide_eq_true (by omega)
        have t1' : decide (100 < k) = true := decide_eq_true hk100
        go_wp2
        go_ret
        exact ⟨rfl, ST.out.below⟩
      · have t1 : decide ((100 : Int) < (k : Int)) = false := decide_eq_false (by omega)
        have t1' : decide (100 < k) = false := decide_eq_false hk100
        have hk100' : k ≤ 100 := by omega
        clear hk100
        -- the first of the row
        obtain ⟨fst, hfst, hcase⟩ : ∃ fst : Nat, fst ≤ 18446744073709551615 ∧ ((k = 0 ∧ fst = 0) ∨ (0 < k ∧ ∃ b0 off0, a0 = some ⟨b0, off0, none⟩ ∧ ∀ w', Below w.heap.size w w' → w'.cell? ⟨b0, off0, none⟩ = some (.int .u64 (fst : Int)))) := by
          by_cases hk0 : k = 0
          · exact ⟨0, by omega, Or.inl ⟨hk0, rfl⟩⟩
          · obtain ⟨v, hv⟩ : ∃ v, l[0]? = some v := ⟨l[0]'(by rw [← HKL.out]; omega), List.getElem?_eq_getElem _⟩
            refine ⟨v, LX.out v (List.mem_of_getElem? hv), Or.inr ⟨by omega, ?_⟩⟩
            obtain ⟨b0, off0, e, hc⟩ := SQ.out.elem hv
            have := hc 0 (.int .u64 (v : Int)) rfl
            simp only [Elem.u64s, Nat.add_zero, Nat.zero_mul] at this
            exact ⟨b0, off0, e, fun w' hb => cell_later this (Nat.le_refl _) hb⟩
        obtain ⟨i', hi'⟩ : ∃ i', 1 - i = i' := ⟨_, rfl⟩
        have hi1' : i' ≤ 1 := by omega
        have hii : i ≠ i' := by omega
        have e9 : (1 : Int) - (i : Int) = (i' : Int) := by omega
        have wr9 : IntKind.i64.wrap ((1 : Int) - (i : Int)) = (1 : Int) - (i : Int) := IntWalk.i64_in _ ⟨by omega, by omega⟩
        have wr8 : IntKind.i64.wrap (i' : Int) = (i' : Int) := IntWalk.i64_in _ ⟨by omega, by omega⟩
        have i0 : (0 : Int) ≤ (i : Int) := by omega
        have i2 : (i : Int) < 2 := by omega
        have i0' : (0 : Int) ≤ (i' : Int) := by omega
        have i2' : (i' : Int) < 2 := by omega
        have hm6 : 100 * (j : Int) ≤ 100000 := by omega
        have hj1 : 100 * (j : Int) ≤ 100 * ((j + 1 : Nat) : Int) := by omega
        have hj2 : 100 * ((j + 1 : Nat) : Int) = 100 * (j : Int) + 100 := by omega
        have HJ1 := Lib.hid hj1; have HJ2 := Lib.hid hj2; have HM6 := Lib.hid hm6; have HII := Lib.hid hii
        clear hj1 hj2 hm6 hii hi'
        have hfin : Hid (∀ (A' : St2) (w' : World), Good2 A' (100 * ((j + 1 : Nat) : Int)) → BL w p g q h b7 b8 bc #[.int .i64 x, .int .i64 y, .int .i64 z, .slice a0 k c, .int .u64 (X : Int)] 39 A' A' w' → Acting w p g q h b7 b8 len (.int .i64 ((j : Int) + 1)) w') := Lib.hid (fun A' w' hg hb => ⟨j + 1, by omega, by go_num, A', _, _, _, hg, hb⟩)
        have hkind : (x = 1) ∨ (x = 2) ∨ (x = 3) ∨ (x = 4) ∨ (x = 5) ∨ (x ≠ 1 ∧ x ≠ 2 ∧ x ≠ 3 ∧ x ≠ 4 ∧ x ≠ 5) := by omega
        have HCASE := Lib.hid hcase
        clear hcase
        go_upto_if 62 with fail
        obtain ⟨W1, hW1⟩ : ∃ W1, wr.alloc (.cells #[.int .i64 x, .int .i64 y, .int .i64 z, .slice a0 k c, .int .u64 (X : Int)] 39) = W1 := ⟨_, rfl⟩
        rw [hW1] at ST ⊢
        clear hW1 hbc c0 c1 c2 c3 c4
        have m0 : W1.cell? ⟨bc, 0, none⟩ = some (.int .i64 x) := ST.out.act.cell 0
        have m2 : W1.cell? ⟨bc, 2, none⟩ = some (.int .i64 z) := ST.out.act.cell 2
        have m3 : W1.cell? ⟨bc, 3, none⟩ = some (.slice a0 k c) := ST.out.act.cell 3
        have m4 : W1.cell? ⟨bc, 4, none⟩ = some (.int .u64 (X : Int)) := ST.out.act.cell 4
        go_cut [12] (fun s12 wx => s12 = .int .u64 (fst : Int) ∧ W1 = wx)
        case first =>
          rcases HCASE.out with ⟨hk0, hf0⟩ | ⟨hk0, b0, off0, ha0, hc0⟩
          · subst hk0 hf0
            have t5 : decide ((0 : Int) < ((0 : Nat) : Int)) = false := by decide
            go_wp2_with fail
            go_meet
            exact ⟨rfl, rfl⟩
          · subst ha0
            have t5 : decide ((0 : Int) < (k : Int)) = true := decide_eq_true (by omega)
            have t5' : decide (0 < k) = true := decide_eq_true hk0
            have d9 : W1.cell? ⟨b0, off0, none⟩ = some (.int .u64 (fst : Int)) := hc0 _ ST.out.below
            have n9 : (0 : Int) < (k : Int) := by omega
            clear hc0
            go_wp2_with fail
            go_meet
            exact ⟨rfl, rfl⟩
        case rest =>
          obtain ⟨rfl, rfl⟩ := hcut
          clear HCASE m3
          rcases hkind with hx1 | hx2 | hx3 | hx4 | hx5 | hx6
          · as_aux_lemma =>
            have x1 : (x == 1) = true := by rw [beq_iff_eq]; exact hx1
            obtain ⟨A', hA'⟩ : ∃ A', A.put i (popN (A.at i)).1 = A' := ⟨_, rfl⟩
            obtain ⟨v, hv⟩ : ∃ v, (popN (A.at i)).2.1 = v := ⟨_, rfl⟩
            obtain ⟨E, hE⟩ : ∃ v, (popN (A.at i)).2.2 = v := ⟨_, rfl⟩
            have GA : Hid (Good2 A' (100 * ((j + 1 : Nat) : Int))) := Lib.hid (by rw [← hA']; exact (good_pop G.out S4.out.mem.byt hi).mono HJ1.out)
            have HA : Hid (∀ B' w', BL w p g q h b7 b8 bc #[.int .i64 x, .int .i64 y, .int .i64 z, .slice a0 k c, .int .u64 (X : Int)] 39 A B' w' → Calls Try.prog 13 #[.pointer (some ⟨b7, i * 2, none⟩), .pointer (some ⟨p, 0, none⟩)] w' fun e w2 => e = .returned (.tuple #[.int .u64 (v : Int), .int .i64 E]) ∧ BL w p g q h b7 b8 bc #[.int .i64 x, .int .i64 y, .int .i64 z, .slice a0 k c, .int .u64 (X : Int)] 39 A' B' w2) := Lib.hid (fun B' w' s => by have := actA_pop C G.out HM6.out hi w' s; rwa [hA', hv, hE] at this)
            have HB : Hid (∀ A2 w', BL w p g q h b7 b8 bc #[.int .i64 x, .int .i64 y, .int .i64 z, .slice a0 k c, .int .u64 (X : Int)] 39 A2 A w' → Calls Try.prog 14 #[.pointer (some ⟨b8, i * 2, none⟩), .pointer (some ⟨q, 0, none⟩)] w' fun e w2 => e = .returned (.tuple #[.int .u64 (v : Int), .int .i64 E]) ∧ BL w p g q h b7 b8 bc #[.int .i64 x, .int .i64 y, .int .i64 z, .slice a0 k c, .int .u64 (X : Int)] 39 A2 A' w2) := Lib.hid (fun A2 w' s => by have := actB_pop G.out HM6.out hi w' s; rwa [hA', hv, hE] at this)
            have tv : ((v : Int) != (v : Int)) = false := by simp
            have tE : (E != E) = false := by simp
            clear hA' hv hE hx1
            go_wp2_with fail
            refine (HA.out _ _ ST.out).mono ?_; rintro e w5 ⟨rfl, hs⟩
            have ST := Lib.hid hs
            clear hs
            go_wp2_with fail
            refine (HB.out _ _ ST.out).mono ?_; rintro e w6 ⟨rfl, hs⟩
            have ST := Lib.hid hs
            clear hs

            obtain ⟨H0, hH0⟩ : ∃ v, A'.hs 0 = v := ⟨_, rfl⟩
            obtain ⟨N0, hN0⟩ : ∃ v, A'.ns 0 = v := ⟨_, rfl⟩
            obtain ⟨H1, hH1⟩ : ∃ v, A'.hs 1 = v := ⟨_, rfl⟩
            obtain ⟨N1, hN1⟩ : ∃ v, A'.ns 1 = v := ⟨_, rfl⟩
            have y0 : w6.cell? ⟨b7, 0, none⟩ = some (.int .u64 (H0 : Int)) := by rw [← hH0]; exact (ST.out.l 0 (by omega)).c0
            have y1 : w6.cell? ⟨b7, 1, none⟩ = some (.int .i64 N0) := by rw [← hN0]; exact (ST.out.l 0 (by omega)).c1
            have y2 : w6.cell? ⟨b7, 2, none⟩ = some (.int .u64 (H1 : Int)) := by rw [← hH1]; exact (ST.out.l 1 (by omega)).c0
            have y3 : w6.cell? ⟨b7, 3, none⟩ = some (.int .i64 N1) := by rw [← hN1]; exact (ST.out.l 1 (by omega)).c1
            have z0 : w6.cell? ⟨b8, 0, none⟩ = some (.int .u64 (H0 : Int)) := by rw [← hH0]; exact (ST.out.k 0 (by omega)).c0
            have z1 : w6.cell? ⟨b8, 1, none⟩ = some (.int .i64 N0) := by rw [← hN0]; exact (ST.out.k 0 (by omega)).c1
            have z2 : w6.cell? ⟨b8, 2, none⟩ = some (.int .u64 (H1 : Int)) := by rw [← hH1]; exact (ST.out.k 1 (by omega)).c0
            have z3 : w6.cell? ⟨b8, 3, none⟩ = some (.int .i64 N1) := by rw [← hN1]; exact (ST.out.k 1 (by omega)).c1
            clear hH0 hN0 hH1 hN1
            go_wp2
            go_roundw
            case rel => exact hfin.out A' _ GA.out ST.out
            case measure => simp [intOf]; omega
          · as_aux_lemma =>
            have x1 : (x == 1) = false := by rw [beq_eq_false_iff_ne]; omega
            have x2 : (x == 2) = true := by rw [beq_iff_eq]; exact hx2
            obtain ⟨O, hO⟩ : ∃ v, allN (A.at i) = v := ⟨_, rfl⟩
            obtain ⟨E, hE⟩ : ∃ v : Int, (if O.isSome then (0 : Int) else 3) = v := ⟨_, rfl⟩
            have GA : Hid (Good2 A (100 * ((j + 1 : Nat) : Int))) := Lib.hid (G.out.mono HJ1.out)
            have HA : Hid (∀ B' w', BL w p g q h b7 b8 bc #[.int .i64 x, .int .i64 y, .int .i64 z, .slice a0 k c, .int .u64 (X : Int)] 39 A B' w' → Calls Try.prog 15 #[.pointer (some ⟨b7, i * 2, none⟩), .pointer (some ⟨p, 0, none⟩)] w' fun e w2 => ∃ a8 k8 cap8, e = .returned (.tuple #[.slice a8 k8 cap8, .int .i64 E]) ∧ Seq Elem.u64s w2 (.slice a8 k8 cap8) (O.getD []) ∧ k8 ≤ cap8 ∧ cap8 ≤ 9223372036854775807 ∧ Below w'.heap.size w' w2 ∧ BL w p g q h b7 b8 bc #[.int .i64 x, .int .i64 y, .int .i64 z, .slice a0 k c, .int .u64 (X : Int)] 39 A B' w2) := Lib.hid (fun B' w' s => by have := actA_all C G.out HM6.out hi w' s; rwa [hO, hE] at this)
            have HB : Hid (∀ A2 w', BL w p g q h b7 b8 bc #[.int .i64 x, .int .i64 y, .int .i64 z, .slice a0 k c, .int .u64 (X : Int)] 39 A2 A w' → Calls Try.prog 16 #[.pointer (some ⟨b8, i * 2, none⟩), .pointer (some ⟨q, 0, none⟩)] w' fun e w2 => ∃ a8 k8 cap8, e = .returned (.tuple #[.slice a8 k8 cap8, .int .i64 E]) ∧ Seq Elem.u64s w2 (.slice a8 k8 cap8) (O.getD []) ∧ k8 ≤ cap8 ∧ cap8 ≤ 9223372036854775807 ∧ Below w'.heap.size w' w2 ∧ BL w p g q h b7 b8 bc #[.int .i64 x, .int .i64 y, .int .i64 z, .slice a0 k c, .int .u64 (X : Int)] 39 A2 A w2) := Lib.hid (fun A2 w' s => by have := actB_all G.out HM6.out hi w' s; rwa [hO, hE] at this)
            have tE : (E != E) = false := by simp
            clear hO hE hx2
            go_wp2_with fail
            refine (HA.out _ _ ST.out).mono ?_; rintro e w5 ⟨a5, k5, cap5, rfl, hq5, hk5, hc5, hb5, hs⟩
            have ST := Lib.hid hs
            have Q5 := Lib.hid hq5
            clear hs hq5 hb5
            go_wp2_with fail
            refine (HB.out _ _ ST.out).mono ?_; rintro e w6 ⟨a6, k6, cap6, rfl, hq6, hk6, hc6, hb6, hs⟩
            have ST := Lib.hid hs
            have hS := same7_any w6 (Q5.out.below (Nat.le_refl _) hb6) hq6 (by omega) (by omega)
            rw [decide_eq_true (show O.getD [] = O.getD [] from rfl)] at hS
            have HS := Lib.hid hS
            clear hs hq6 hb6 hS
            go_wp2_with fail
            refine HS.out.mono ?_; rintro e w7 ⟨rfl, hb⟩
            have ST := Lib.hid (ST.out.grew hb)
            clear hb

            obtain ⟨H0, hH0⟩ : ∃ v, A.hs 0 = v := ⟨_, rfl⟩
            obtain ⟨N0, hN0⟩ : ∃ v, A.ns 0 = v := ⟨_, rfl⟩
            obtain ⟨H1, hH1⟩ : ∃ v, A.hs 1 = v := ⟨_, rfl⟩
            obtain ⟨N1, hN1⟩ : ∃ v, A.ns 1 = v := ⟨_, rfl⟩
            have y0 : w7.cell? ⟨b7, 0, none⟩ = some (.int .u64 (H0 : Int)) := by rw [← hH0]; exact (ST.out.l 0 (by omega)).c0
            have y1 : w7.cell? ⟨b7, 1, none⟩ = some (.int .i64 N0) := by rw [← hN0]; exact (ST.out.l 0 (by omega)).c1
            have y2 : w7.cell? ⟨b7, 2, none⟩ = some (.int .u64 (H1 : Int)) := by rw [← hH1]; exact (ST.out.l 1 (by omega)).c0
            have y3 : w7.cell? ⟨b7, 3, none⟩ = some (.int .i64 N1) := by rw [← hN1]; exact (ST.out.l 1 (by omega)).c1
            have z0 : w7.cell? ⟨b8, 0, none⟩ = some (.int .u64 (H0 : Int)) := by rw [← hH0]; exact (ST.out.k 0 (by omega)).c0
            have z1 : w7.cell? ⟨b8, 1, none⟩ = some (.int .i64 N0) := by rw [← hN0]; exact (ST.out.k 0 (by omega)).c1
            have z2 : w7.cell? ⟨b8, 2, none⟩ = some (.int .u64 (H1 : Int)) := by rw [← hH1]; exact (ST.out.k 1 (by omega)).c0
            have z3 : w7.cell? ⟨b8, 3, none⟩ = some (.int .i64 N1) := by rw [← hN1]; exact (ST.out.k 1 (by omega)).c1
            clear hH0 hN0 hH1 hN1
            go_wp2
            go_roundw
            case rel => exact hfin.out A _ GA.out ST.out
            case measure => simp [intOf]; omega
          · as_aux_lemma =>
            have x1 : (x == 1) = false := by rw [beq_eq_false_iff_ne]; omega
            have x2 : (x == 2) = false := by rw [beq_eq_false_iff_ne]; omega
            have x3 : (x == 3) = true := by rw [beq_iff_eq]; exact hx3
            obtain ⟨A', hA'⟩ : ∃ A', A.joined i i' = A' := ⟨_, rfl⟩
            obtain ⟨E, hE⟩ : ∃ v : Int, (if (joinN A.L (A.hs i) (A.ns i) (A.hs i') (A.ns i')).isSome then (0 : Int) else 3) = v := ⟨_, rfl⟩
            have GA : Hid (Good2 A' (100 * ((j + 1 : Nat) : Int))) := Lib.hid (by rw [← hA']; exact (good_join G.out hi hi1' HII.out).mono HJ1.out)
            have HA : Hid (∀ B' w', BL w p g q h b7 b8 bc #[.int .i64 x, .int .i64 y, .int .i64 z, .slice a0 k c, .int .u64 (X : Int)] 39 A B' w' → Calls Try.prog 18 #[.pointer (some ⟨b7, i * 2, none⟩), .pointer (some ⟨p, 0, none⟩), .pointer (some ⟨b7, i' * 2, none⟩)] w' fun e w2 => e = .returned (.int .i64 E) ∧ BL w p g q h b7 b8 bc #[.int .i64 x, .int .i64 y, .int .i64 z, .slice a0 k c, .int .u64 (X : Int)] 39 A' B' w2) := Lib.hid (fun B' w' s => by have := actA_join C G.out HM6.out hi hi1' HII.out w' s; rwa [hA', hE] at this)
            have HB : Hid (∀ A2 w', BL w p g q h b7 b8 bc #[.int .i64 x, .int .i64 y, .int .i64 z, .slice a0 k c, .int .u64 (X : Int)] 39 A2 A w' → Calls Try.prog 19 #[.pointer (some ⟨b8, i * 2, none⟩), .pointer (some ⟨q, 0, none⟩), .pointer (some ⟨b8, i' * 2, none⟩)] w' fun e w2 => e = .returned (.int .i64 E) ∧ BL w p g q h b7 b8 bc #[.int .i64 x, .int .i64 y, .int .i64 z, .slice a0 k c, .int .u64 (X : Int)] 39 A2 A' w2) := Lib.hid (fun A2 w' s => by have := actB_join G.out HM6.out hi hi1' HII.out w' s; rwa [hA', hE] at this)
            have HC : Hid (∀ A2 B2 w', BL w p g q h b7 b8 bc #[.int .i64 x, .int .i64 y, .int .i64 z, .slice a0 k c, .int .u64 (X : Int)] 39 A2 B2 w' → Calls Try.prog 18 #[.pointer (some ⟨b7, i * 2, none⟩), .pointer (some ⟨p, 0, none⟩), .pointer (some ⟨b7, i * 2, none⟩)] w' fun e w2 => e = .returned (.int .i64 2) ∧ BL w p g q h b7 b8 bc #[.int .i64 x, .int .i64 y, .int .i64 z, .slice a0 k c, .int .u64 (X : Int)] 39 A2 B2 w2) := Lib.hid (fun A2 B2 w' s => actA_self C hi w' s)
            have tE : (E != E) = false := by simp
            clear hA' hE hx3
            go_wp2_with fail
            go_region_held3 (fun _ => True) (trivial)
              (first
                | (go_at_call 19; (first | (with_reducible refine (HB.out _ _ ST.out.drew).mono ?_) | (with_reducible refine (HB.out _ _ ST.out).mono ?_)); rintro e w5 ⟨rfl, hs⟩; have ST := Lib.hid hs; clear hs)
                | (go_at_call 18; (first | (with_reducible refine (HA.out _ _ ST.out.drew).mono ?_) | (with_reducible refine (HA.out _ _ ST.out).mono ?_) | (with_reducible refine (HC.out _ _ _ ST.out).mono ?_)); rintro e w5 ⟨rfl, hs⟩; have ST := Lib.hid hs; clear hs))

            obtain ⟨H0, hH0⟩ : ∃ v, A'.hs 0 = v := ⟨_, rfl⟩
            obtain ⟨N0, hN0⟩ : ∃ v, A'.ns 0 = v := ⟨_, rfl⟩
            obtain ⟨H1, hH1⟩ : ∃ v, A'.hs 1 = v := ⟨_, rfl⟩
            obtain ⟨N1, hN1⟩ : ∃ v, A'.ns 1 = v := ⟨_, rfl⟩
            have y0 : w5.cell? ⟨b7, 0, none⟩ = some (.int .u64 (H0 : Int)) := by rw [← hH0]; exact (ST.out.l 0 (by omega)).c0
            have y1 : w5.cell? ⟨b7, 1, none⟩ = some (.int .i64 N0) := by rw [← hN0]; exact (ST.out.l 0 (by omega)).c1
            have y2 : w5.cell? ⟨b7, 2, none⟩ = some (.int .u64 (H1 : Int)) := by rw [← hH1]; exact (ST.out.l 1 (by omega)).c0
            have y3 : w5.cell? ⟨b7, 3, none⟩ = some (.int .i64 N1) := by rw [← hN1]; exact (ST.out.l 1 (by omega)).c1
            have z0 : w5.cell? ⟨b8, 0, none⟩ = some (.int .u64 (H0 : Int)) := by rw [← hH0]; exact (ST.out.k 0 (by omega)).c0
            have z1 : w5.cell? ⟨b8, 1, none⟩ = some (.int .i64 N0) := by rw [← hN0]; exact (ST.out.k 0 (by omega)).c1
            have z2 : w5.cell? ⟨b8, 2, none⟩ = some (.int .u64 (H1 : Int)) := by rw [← hH1]; exact (ST.out.k 1 (by omega)).c0
            have z3 : w5.cell? ⟨b8, 3, none⟩ = some (.int .i64 N1) := by rw [← hN1]; exact (ST.out.k 1 (by omega)).c1
            clear hH0 hN0 hH1 hN1
            go_wp2
            go_roundw
            case rel => exact hfin.out A' _ GA.out ST.out
            case measure => simp [intOf]; omega
          · as_aux_lemma =>
            have x1 : (x == 1) = false := by rw [beq_eq_false_iff_ne]; omega
            have x2 : (x == 2) = false := by rw [beq_eq_false_iff_ne]; omega
            have x3 : (x == 3) = false := by rw [beq_eq_false_iff_ne]; omega
            have x4 : (x == 4) = true := by rw [beq_iff_eq]; exact hx4
            obtain ⟨A', hA'⟩ : ∃ A', A.lay (laid A.L fst X) = A' := ⟨_, rfl⟩
            obtain ⟨E, hE⟩ : ∃ v : Int, (if fst + 8 ≤ 2048 then (0 : Int) else 3) = v := ⟨_, rfl⟩
            have GA : Hid (Good2 A' (100 * ((j + 1 : Nat) : Int))) := Lib.hid (by rw [← hA']; exact (good_lay G.out ((laid_len _ _ _).trans G.out.len)).mono HJ1.out)
            have HA : Hid (∀ B' w', BL w p g q h b7 b8 bc #[.int .i64 x, .int .i64 y, .int .i64 z, .slice a0 k c, .int .u64 (X : Int)] 39 A B' w' → Calls Try.prog 20 #[.pointer (some ⟨p, 0, none⟩), .int .u64 (fst : Int), .int .i64 8, .int .u64 (X : Int)] w' fun e w2 => e = .returned (.int .i64 E) ∧ BL w p g q h b7 b8 bc #[.int .i64 x, .int .i64 y, .int .i64 z, .slice a0 k c, .int .u64 (X : Int)] 39 A' B' w2) := Lib.hid (fun B' w' s => by have := actA_store G.out.len hfst hX w' s; rw [hA', hE] at this; exact this)
            have HB : Hid (∀ A2 w', BL w p g q h b7 b8 bc #[.int .i64 x, .int .i64 y, .int .i64 z, .slice a0 k c, .int .u64 (X : Int)] 39 A2 A w' → Calls Try.prog 21 #[.pointer (some ⟨q, 0, none⟩), .int .u64 (fst : Int), .int .i64 8, .int .u64 (X : Int)] w' fun e w2 => e = .returned (.int .i64 E) ∧ BL w p g q h b7 b8 bc #[.int .i64 x, .int .i64 y, .int .i64 z, .slice a0 k c, .int .u64 (X : Int)] 39 A2 A' w2) := Lib.hid (fun A2 w' s => by have := actB_store G.out.len hfst hX w' s; rw [hA', hE] at this; exact this)
            have tE : (E != E) = false := by simp
            clear hA' hE hx4
            go_wp2_with fail
            have d4 : W1.cell? ⟨bc, 4, none⟩ = some (.int .u64 (X : Int)) := ST.out.act.cell 4
            go_region_held3 (fun w' => w'.cell? ⟨bc, 4, none⟩ = some (.int .u64 (X : Int))) (first | go_keep | exact d4)
              (first
                | (go_at_call 21; (first | (with_reducible refine (HB.out _ _ ST.out.drew).mono ?_) | (with_reducible refine (HB.out _ _ ST.out).mono ?_)); rintro e w5 ⟨rfl, hs⟩; have d4 : w5.cell? ⟨bc, 4, none⟩ = some (.int .u64 (X : Int)) := hs.act.cell 4; have ST := Lib.hid hs; clear hs)
                | (go_at_call 20; (first | (with_reducible refine (HA.out _ _ ST.out.drew).mono ?_) | (with_reducible refine (HA.out _ _ ST.out).mono ?_)); rintro e w5 ⟨rfl, hs⟩; have d4 : w5.cell? ⟨bc, 4, none⟩ = some (.int .u64 (X : Int)) := hs.act.cell 4; have ST := Lib.hid hs; clear hs))
            clear d4

            obtain ⟨H0, hH0⟩ : ∃ v, A'.hs 0 = v := ⟨_, rfl⟩
            obtain ⟨N0, hN0⟩ : ∃ v, A'.ns 0 = v := ⟨_, rfl⟩
            obtain ⟨H1, hH1⟩ : ∃ v, A'.hs 1 = v := ⟨_, rfl⟩
            obtain ⟨N1, hN1⟩ : ∃ v, A'.ns 1 = v := ⟨_, rfl⟩
            have y0 : w5.cell? ⟨b7, 0, none⟩ = some (.int .u64 (H0 : Int)) := by rw [← hH0]; exact (ST.out.l 0 (by omega)).c0
            have y1 : w5.cell? ⟨b7, 1, none⟩ = some (.int .i64 N0) := by rw [← hN0]; exact (ST.out.l 0 (by omega)).c1
            have y2 : w5.cell? ⟨b7, 2, none⟩ = some (.int .u64 (H1 : Int)) := by rw [← hH1]; exact (ST.out.l 1 (by omega)).c0
            have y3 : w5.cell? ⟨b7, 3, none⟩ = some (.int .i64 N1) := by rw [← hN1]; exact (ST.out.l 1 (by omega)).c1
            have z0 : w5.cell? ⟨b8, 0, none⟩ = some (.int .u64 (H0 : Int)) := by rw [← hH0]; exact (ST.out.k 0 (by omega)).c0
            have z1 : w5.cell? ⟨b8, 1, none⟩ = some (.int .i64 N0) := by rw [← hN0]; exact (ST.out.k 0 (by omega)).c1
            have z2 : w5.cell? ⟨b8, 2, none⟩ = some (.int .u64 (H1 : Int)) := by rw [← hH1]; exact (ST.out.k 1 (by omega)).c0
            have z3 : w5.cell? ⟨b8, 3, none⟩ = some (.int .i64 N1) := by rw [← hN1]; exact (ST.out.k 1 (by omega)).c1
            clear hH0 hN0 hH1 hN1
            go_wp2
            go_roundw
            case rel => exact hfin.out A' _ GA.out ST.out
            case measure => simp [intOf]; omega
          · as_aux_lemma =>
            have x1 : (x == 1) = false := by rw [beq_eq_false_iff_ne]; omega
            have x2 : (x == 2) = false := by rw [beq_eq_false_iff_ne]; omega
            have x3 : (x == 3) = false := by rw [beq_eq_false_iff_ne]; omega
            have x4 : (x == 4) = false := by rw [beq_eq_false_iff_ne]; omega
            have x5 : (x == 5) = true := by rw [beq_iff_eq]; exact hx5
            have GA : Hid (Good2 A (100 * ((j + 1 : Nat) : Int))) := Lib.hid (G.out.mono HJ1.out)
            clear hx5
            cases hO : chainN A.L fst z with
            | none =>
              have HA : Hid (∀ B' w', BL w p g q h b7 b8 bc #[.int .i64 x, .int .i64 y, .int .i64 z, .slice a0 k c, .int .u64 (X : Int)] 39 A B' w' → Calls Try.prog 22 #[.pointer (some ⟨p, 0, none⟩), .int .u64 (fst : Int), .int .i64 z] w' fun e w2 => e = .returned (.tuple #[.agg #[.int .u64 0, .int .i64 0], .int .i64 3]) ∧ Below w'.heap.size w' w2 ∧ BL w p g q h b7 b8 bc #[.int .i64 x, .int .i64 y, .int .i64 z, .slice a0 k c, .int .u64 (X : Int)] 39 A B' w2) := Lib.hid (fun B' w' s => by have := actA_chain C hfst hz.1 hz.2 w' s; rw [hO] at this; simp only [Option.isSome_none, Option.getD_none, List.length_nil] at this; exact this)
              have HB : Hid (∀ A2 w', BL w p g q h b7 b8 bc #[.int .i64 x, .int .i64 y, .int .i64 z, .slice a0 k c, .int .u64 (X : Int)] 39 A2 A w' → Calls Try.prog 23 #[.pointer (some ⟨q, 0, none⟩), .int .u64 (fst : Int), .int .i64 z] w' fun e w2 => ∃ b cap, e = .returned (.tuple #[.slice b 0 cap, .bool false]) ∧ Below w'.heap.size w' w2 ∧ BL w p g q h b7 b8 bc #[.int .i64 x, .int .i64 y, .int .i64 z, .slice a0 k c, .int .u64 (X : Int)] 39 A2 A w2) := Lib.hid (fun A2 w' s => by have := actB_chain hfst hz.1 hz.2 w' s; rw [hO] at this; simp only [Option.isSome_none, Option.getD_none, List.length_nil] at this; exact this)
              clear hO
              go_wp2_with fail
              refine (HA.out _ _ ST.out).mono ?_; rintro e w5 ⟨rfl, hb, hs⟩
              have ST := Lib.hid (hs.grew ((Below.refl _ w5).alloc (Nat.le_refl _) (.cells #[.int .u64 0, .int .i64 0] 33)))
              have K5 := Lib.hid (Blk.new w5 33 #[.int .u64 0, .int .i64 0])
              obtain ⟨b21, hb21⟩ : ∃ b, w5.heap.size = b := ⟨_, rfl⟩
              rw [hb21] at K5
              have d2 : (w5.alloc (.cells #[.int .u64 0, .int .i64 0] 33)).cell? ⟨bc, 2, none⟩ = some (.int .i64 z) := ST.out.act.cell 2
              clear hs hb
              go_wp2_with fail
              obtain ⟨W5, hW5⟩ : ∃ W, w5.alloc (.cells #[.int .u64 0, .int .i64 0] 33) = W := ⟨_, rfl⟩
              rw [hW5] at ST K5 ⊢
              clear hW5 d2
              refine (HB.out _ _ ST.out).mono ?_; rintro e w6 ⟨b6, cap6, rfl, hb, hs⟩
              have ST := Lib.hid hs
              have K6 := K5.out.grew hb
              have v0 : w6.cell? ⟨b21, 0, none⟩ = some (.int .u64 0) := K6.cell 0
              have v1 : w6.cell? ⟨b21, 1, none⟩ = some (.int .i64 0) := K6.cell 1
              clear hs hb K6

              obtain ⟨H0, hH0⟩ : ∃ v, A.hs 0 = v := ⟨_, rfl⟩
              obtain ⟨N0, hN0⟩ : ∃ v, A.ns 0 = v := ⟨_, rfl⟩
              obtain ⟨H1, hH1⟩ : ∃ v, A.hs 1 = v := ⟨_, rfl⟩
              obtain ⟨N1, hN1⟩ : ∃ v, A.ns 1 = v := ⟨_, rfl⟩
              have y0 : w6.cell? ⟨b7, 0, none⟩ = some (.int .u64 (H0 : Int)) := by rw [← hH0]; exact (ST.out.l 0 (by omega)).c0
              have y1 : w6.cell? ⟨b7, 1, none⟩ = some (.int .i64 N0) := by rw [← hN0]; exact (ST.out.l 0 (by omega)).c1
              have y2 : w6.cell? ⟨b7, 2, none⟩ = some (.int .u64 (H1 : Int)) := by rw [← hH1]; exact (ST.out.l 1 (by omega)).c0
              have y3 : w6.cell? ⟨b7, 3, none⟩ = some (.int .i64 N1) := by rw [← hN1]; exact (ST.out.l 1 (by omega)).c1
              have z0 : w6.cell? ⟨b8, 0, none⟩ = some (.int .u64 (H0 : Int)) := by rw [← hH0]; exact (ST.out.k 0 (by omega)).c0
              have z1 : w6.cell? ⟨b8, 1, none⟩ = some (.int .i64 N0) := by rw [← hN0]; exact (ST.out.k 0 (by omega)).c1
              have z2 : w6.cell? ⟨b8, 2, none⟩ = some (.int .u64 (H1 : Int)) := by rw [← hH1]; exact (ST.out.k 1 (by omega)).c0
              have z3 : w6.cell? ⟨b8, 3, none⟩ = some (.int .i64 N1) := by rw [← hN1]; exact (ST.out.k 1 (by omega)).c1
              clear hH0 hN0 hH1 hN1
              go_wp2
              go_roundw
              case rel => exact hfin.out A _ GA.out ST.out
              case measure => simp [intOf]; omega
            | some r =>
              obtain ⟨n9, hn9⟩ : ∃ n, r.length = n := ⟨_, rfl⟩
              have HA : Hid (∀ B' w', BL w p g q h b7 b8 bc #[.int .i64 x, .int .i64 y, .int .i64 z, .slice a0 k c, .int .u64 (X : Int)] 39 A B' w' → Calls Try.prog 22 #[.pointer (some ⟨p, 0, none⟩), .int .u64 (fst : Int), .int .i64 z] w' fun e w2 => e = .returned (.tuple #[.agg #[.int .u64 (fst : Int), .int .i64 (n9 : Int)], .int .i64 0]) ∧ Below w'.heap.size w' w2 ∧ BL w p g q h b7 b8 bc #[.int .i64 x, .int .i64 y, .int .i64 z, .slice a0 k c, .int .u64 (X : Int)] 39 A B' w2) := Lib.hid (fun B' w' s => by have := actA_chain C hfst hz.1 hz.2 w' s; rw [hO] at this; simp only [Option.isSome_some, Option.getD_some, hn9] at this; exact this)
              have HB : Hid (∀ A2 w', BL w p g q h b7 b8 bc #[.int .i64 x, .int .i64 y, .int .i64 z, .slice a0 k c, .int .u64 (X : Int)] 39 A2 A w' → Calls Try.prog 23 #[.pointer (some ⟨q, 0, none⟩), .int .u64 (fst : Int), .int .i64 z] w' fun e w2 => ∃ b cap, e = .returned (.tuple #[.slice b n9 cap, .bool true]) ∧ Below w'.heap.size w' w2 ∧ BL w p g q h b7 b8 bc #[.int .i64 x, .int .i64 y, .int .i64 z, .slice a0 k c, .int .u64 (X : Int)] 39 A2 A w2) := Lib.hid (fun A2 w' s => by have := actB_chain hfst hz.1 hz.2 w' s; rw [hO] at this; simp only [Option.isSome_some, Option.getD_some, hn9] at this; exact this)
              clear hO
              go_wp2_with fail
              refine (HA.out _ _ ST.out).mono ?_; rintro e w5 ⟨rfl, hb, hs⟩
              have ST := Lib.hid (hs.grew ((Below.refl _ w5).alloc (Nat.le_refl _) (.cells #[.int .u64 (fst : Int), .int .i64 (n9 : Int)] 33)))
              have K5 := Lib.hid (Blk.new w5 33 #[.int .u64 (fst : Int), .int .i64 (n9 : Int)])
              obtain ⟨b21, hb21⟩ : ∃ b, w5.heap.size = b := ⟨_, rfl⟩
              rw [hb21] at K5
              have d2 : (w5.alloc (.cells #[.int .u64 (fst : Int), .int .i64 (n9 : Int)] 33)).cell? ⟨bc, 2, none⟩ = some (.int .i64 z) := ST.out.act.cell 2
              clear hs hb
              go_wp2_with fail
              obtain ⟨W5, hW5⟩ : ∃ W, w5.alloc (.cells #[.int .u64 (fst : Int), .int .i64 (n9 : Int)] 33) = W := ⟨_, rfl⟩
              rw [hW5] at ST K5 ⊢
              clear hW5 d2
              refine (HB.out _ _ ST.out).mono ?_; rintro e w6 ⟨b6, cap6, rfl, hb, hs⟩
              have ST := Lib.hid hs
              have K6 := K5.out.grew hb
              have v0 : w6.cell? ⟨b21, 0, none⟩ = some (.int .u64 (fst : Int)) := K6.cell 0
              have v1 : w6.cell? ⟨b21, 1, none⟩ = some (.int .i64 (n9 : Int)) := K6.cell 1
              clear hs hb K6
              have tn : ((n9 : Int) != (n9 : Int)) = false := by simp
              have tf : ((fst : Int) != (fst : Int)) = false := by simp

              obtain ⟨H0, hH0⟩ : ∃ v, A.hs 0 = v := ⟨_, rfl⟩
              obtain ⟨N0, hN0⟩ : ∃ v, A.ns 0 = v := ⟨_, rfl⟩
              obtain ⟨H1, hH1⟩ : ∃ v, A.hs 1 = v := ⟨_, rfl⟩
              obtain ⟨N1, hN1⟩ : ∃ v, A.ns 1 = v := ⟨_, rfl⟩
              have y0 : w6.cell? ⟨b7, 0, none⟩ = some (.int .u64 (H0 : Int)) := by rw [← hH0]; exact (ST.out.l 0 (by omega)).c0
              have y1 : w6.cell? ⟨b7, 1, none⟩ = some (.int .i64 N0) := by rw [← hN0]; exact (ST.out.l 0 (by omega)).c1
              have y2 : w6.cell? ⟨b7, 2, none⟩ = some (.int .u64 (H1 : Int)) := by rw [← hH1]; exact (ST.out.l 1 (by omega)).c0
              have y3 : w6.cell? ⟨b7, 3, none⟩ = some (.int .i64 N1) := by rw [← hN1]; exact (ST.out.l 1 (by omega)).c1
              have z0 : w6.cell? ⟨b8, 0, none⟩ = some (.int .u64 (H0 : Int)) := by rw [← hH0]; exact (ST.out.k 0 (by omega)).c0
              have z1 : w6.cell? ⟨b8, 1, none⟩ = some (.int .i64 N0) := by rw [← hN0]; exact (ST.out.k 0 (by omega)).c1
              have z2 : w6.cell? ⟨b8, 2, none⟩ = some (.int .u64 (H1 : Int)) := by rw [← hH1]; exact (ST.out.k 1 (by omega)).c0
              have z3 : w6.cell? ⟨b8, 3, none⟩ = some (.int .i64 N1) := by rw [← hN1]; exact (ST.out.k 1 (by omega)).c1
              clear hH0 hN0 hH1 hN1
              go_wp2
              go_roundw
              case rel => exact hfin.out A _ GA.out ST.out
              case measure => simp [intOf]; omega
          · as_aux_lemma =>
            obtain ⟨nx1, nx2, nx3, nx4, nx5⟩ := hx6
            have x1 : (x == 1) = false := by rw [beq_eq_false_iff_ne]; exact nx1
            have x2 : (x == 2) = false := by rw [beq_eq_false_iff_ne]; exact nx2
            have x3 : (x == 3) = false := by rw [beq_eq_false_iff_ne]; exact nx3
            have x4 : (x == 4) = false := by rw [beq_eq_false_iff_ne]; exact nx4
            have x5 : (x == 5) = false := by rw [beq_eq_false_iff_ne]; exact nx5
            obtain ⟨A', hA'⟩ : ∃ A', A.put i (pushN (A.at i) l).1 = A' := ⟨_, rfl⟩
            obtain ⟨E, hE⟩ : ∃ v, (pushN (A.at i) l).2 = v := ⟨_, rfl⟩
            have GA : Hid (Good2 A' (100 * ((j + 1 : Nat) : Int))) := Lib.hid (by rw [← hA', HJ2.out]; exact good_push G.out hi LX.out (by rw [← HKL.out]; omega))
            have HA : Hid (∀ B' w', BL w p g q h b7 b8 bc #[.int .i64 x, .int .i64 y, .int .i64 z, .slice a0 k c, .int .u64 (X : Int)] 39 A B' w' → Calls Try.prog 24 #[.pointer (some ⟨b7, i * 2, none⟩), .pointer (some ⟨p, 0, none⟩), .slice a0 k c] w' fun e w2 => e = .returned (.int .i64 E) ∧ BL w p g q h b7 b8 bc #[.int .i64 x, .int .i64 y, .int .i64 z, .slice a0 k c, .int .u64 (X : Int)] 39 A' B' w2) := Lib.hid (fun B' w' s => by have := actA_push C G.out HM6.out hi SQ.out LIN.out hkc hcm LX.out hk100' w' s; rwa [hA', hE] at this)
            have HB : Hid (∀ A2 w', BL w p g q h b7 b8 bc #[.int .i64 x, .int .i64 y, .int .i64 z, .slice a0 k c, .int .u64 (X : Int)] 39 A2 A w' → Calls Try.prog 25 #[.pointer (some ⟨b8, i * 2, none⟩), .pointer (some ⟨q, 0, none⟩), .slice a0 k c] w' fun e w2 => e = .returned (.int .i64 E) ∧ BL w p g q h b7 b8 bc #[.int .i64 x, .int .i64 y, .int .i64 z, .slice a0 k c, .int .u64 (X : Int)] 39 A2 A' w2) := Lib.hid (fun A2 w' s => by have := actB_push G.out HM6.out hi SQ.out LIN.out LX.out hk100' w' s; rwa [hA', hE] at this)
            have tE : (E != E) = false := by simp
            clear hA' hE nx1 nx2 nx3 nx4 nx5
            go_wp2_with fail
            have d3 : W1.cell? ⟨bc, 3, none⟩ = some (.slice a0 k c) := ST.out.act.cell 3
            go_region_held3 (fun w' => w'.cell? ⟨bc, 3, none⟩ = some (.slice a0 k c)) (first | go_keep | exact d3)
              (first
                | (go_at_call 25; (first | (with_reducible refine (HB.out _ _ ST.out.drew).mono ?_) | (with_reducible refine (HB.out _ _ ST.out).mono ?_)); rintro e w5 ⟨rfl, hs⟩; have d3 : w5.cell? ⟨bc, 3, none⟩ = some (.slice a0 k c) := hs.act.cell 3; have ST := Lib.hid hs; clear hs)
                | (go_at_call 24; (first | (with_reducible refine (HA.out _ _ ST.out.drew).mono ?_) | (with_reducible refine (HA.out _ _ ST.out).mono ?_)); rintro e w5 ⟨rfl, hs⟩; have d3 : w5.cell? ⟨bc, 3, none⟩ = some (.slice a0 k c) := hs.act.cell 3; have ST := Lib.hid hs; clear hs))
            clear d3

            obtain ⟨H0, hH0⟩ : ∃ v, A'.hs 0 = v := ⟨_, rfl⟩
            obtain ⟨N0, hN0⟩ : ∃ v, A'.ns 0 = v := ⟨_, rfl⟩
            obtain ⟨H1, hH1⟩ : ∃ v, A'.hs 1 = v := ⟨_, rfl⟩
            obtain ⟨N1, hN1⟩ : ∃ v, A'.ns 1 = v := ⟨_, rfl⟩
            have y0 : w5.cell? ⟨b7, 0, none⟩ = some (.int .u64 (H0 : Int)) := by rw [← hH0]; exact (ST.out.l 0 (by omega)).c0
            have y1 : w5.cell? ⟨b7, 1, none⟩ = some (.int .i64 N0) := by rw [← hN0]; exact (ST.out.l 0 (by omega)).c1
            have y2 : w5.cell? ⟨b7, 2, none⟩ = some (.int .u64 (H1 : Int)) := by rw [← hH1]; exact (ST.out.l 1 (by omega)).c0
            have y3 : w5.cell? ⟨b7, 3, none⟩ = some (.int .i64 N1) := by rw [← hN1]; exact (ST.out.l 1 (by omega)).c1
            have z0 : w5.cell? ⟨b8, 0, none⟩ = some (.int .u64 (H0 : Int)) := by rw [← hH0]; exact (ST.out.k 0 (by omega)).c0
            have z1 : w5.cell? ⟨b8, 1, none⟩ = some (.int .i64 N0) := by rw [← hN0]; exact (ST.out.k 0 (by omega)).c1
            have z2 : w5.cell? ⟨b8, 2, none⟩ = some (.int .u64 (H1 : Int)) := by rw [← hH1]; exact (ST.out.k 1 (by omega)).c0
            have z3 : w5.cell? ⟨b8, 3, none⟩ = some (.int .i64 N1) := by rw [← hN1]; exact (ST.out.k 1 (by omega)).c1
            clear hH0 hN0 hH1 hN1
            go_wp2
            go_roundw
            case rel => exact hfin.out A' _ GA.out ST.out
            case measure => simp [intOf]; omega
    · have hjn : j = len := by omega
      have q2 : decide ((j : Int) < (len : Int)) = false := decide_eq_false (by omega)
      have hgot := get_ok S4.out.mem 0 2048 (by rw [G.out.len]; decide)
      have hpa : MemMath.part A.L 0 2048 = A.L := by rw [← G.out.len]; exact MemMath.part_all A.L
      rw [hpa] at hgot
      unfold Got at hgot
      rw [G.out.len] at hgot
      have GT := Lib.hid hgot
      clear hgot hpa hjn
      go_wp2_with fail
      refine GT.out.mono ?_; rintro e w5 ⟨bg, z, rfl, hbytes, hbg, hu⟩
      have S5 := Lib.hid (S4.out.grew (hu.below (B := wr.heap.size) (fun _ h => h.elim) (Nat.le_refl _)))
      have c9 : w5.cell? ⟨q, 0, none⟩ = some (.slice (some ⟨h, 0, none⟩) 2048 2048) := by have := S5.out.ref.head.cell 0; rw [G.out.len] at this; exact this
      have r1 : Reads8 w5 (.slice (some ⟨bg, 0, none⟩) 2048 (2048 + z)) A.L := by
        have h1 := hbytes.reads 0 2048 (2048 + z) (by rw [List.length_append, G.out.len]; omega)
        have h2 : MemMath.part (A.L ++ List.replicate z 0) 0 2048 = A.L := by unfold MemMath.part; rw [List.drop_zero, ← G.out.len, List.take_left]
        rw [h2] at h1; exact h1
      have r2 : Reads8 w5 (.slice (some ⟨h, 0, none⟩) 2048 2048) A.L := by
        have h1 := S5.out.ref.row.reads 0 2048 2048 (by rw [G.out.len]; decide)
        have h2 : MemMath.part A.L 0 2048 = A.L := by rw [← G.out.len]; exact MemMath.part_all A.L
        rw [h2] at h1; exact h1
      have hS := same_any w5 _ _ _ _ _ _ A.L A.L r1 r2 S5.out.mem.byt S5.out.mem.byt
      rw [decide_eq_true (show A.L = A.L from rfl)] at hS
      have HS := Lib.hid hS
      clear hbytes hbg hu r1 r2 hS
      go_wp2_with fail
      refine HS.out.mono ?_; rintro e w6 ⟨rfl, rfl⟩
      go_wp2
      go_ret
      exact ⟨rfl, S5.out.below⟩
set_option maxRecDepth 100000 in
set_option maxHeartbeats 1000000 in
theorem walk_great (w : World) (C : LiG w) {a : Option Addr} {len cap : Nat} (hl : 60 < len) :
    Calls Try.prog 3 #[.slice a len cap] w fun e w' => e = .returned (.bool true) ∧ Below w.heap.size w w' := by
  have t0 : decide ((60 : Int) < (len : Int)) = true := decide_eq_true (by omega)
  have t0' : decide (60 < len) = true := decide_eq_true hl
  go_enter Try.func3, Try.ntmps3
  go_wp2_with fail
  refine (alive_any _ (li_of C)).mono ?_; rintro e w1 ⟨rfl, hb⟩
  have B1 := Lib.hid hb
  clear hb
  go_wp2
  go_ret
  exact ⟨rfl, B1.out⟩
theorem walk_of (w : World) (C : LiG w) {a : Option Addr} {n cap : Nat} (len : Nat) (F : Nat → Nat → Value) (h : Recs w (.slice a n cap) [.num .i64, .num .i64, .num .i64, .nums .u64, .num .u64] len F) :
    Calls Try.prog 3 #[.slice a n cap] w fun e w' => e = .returned (.bool true) ∧ Below w.heap.size w w' := by
  obtain ⟨rfl, _, _⟩ := h.len
  by_cases hl : n ≤ 60
  · exact walk_short w C F h hl
  · exact walk_great w C (by omega)
end Go.Proofs.Ytmnnmgphiiedgaa.listActs
