/- The laws' 'do' of layer 10: any acts, whatever they answer. -/
import Derived.Test.YtomepdgddpajoaaDoorSegOs
import Derived.Test.YtomepdgddpajoaaDoorRecs
namespace Go.Proofs.YtomepdgddpajoaaDoor
open Go.RowKit ListMath PageMath GeoMath SegMath ClassMath
set_option linter.unusedVariables false

/-- What acts that hand out no block leave of a segment: pages of which a block is used stay, others are as they were, or new. -/
structure Did (X X' : SG) : Prop where
  pl : X'.pl = X.pl
  new : ∀ o ∈ X'.L, o ∈ X.L ∨ ∃ f s n, o.P = newPG f s n
  stay : ∀ o ∈ X.L, 0 < o.P.used → o ∈ X'.L
theorem Did.refl (X : SG) : Did X X := ⟨rfl, fun o h => .inl h, fun o h _ => h⟩
theorem did_add {X X' : SG} {op pp a wd n s : Nat} {cls : Int} (d : Did X X') (g : GoodG X') (hk : 1 ≤ wd) (h : MarkMath.allAt X'.K a wd false) : Did X (X'.add op pp cls a wd n s) := by
  obtain ⟨_, _, h3⟩ := g.free hk h
  refine ⟨d.pl, fun o ho => ?_, fun o ho hu => ?_⟩
  · rcases insR_mem.1 (show o ∈ insR X'.L _ from ho) with rfl | ⟨ho, _⟩
    · exact .inr ⟨_, _, _, rfl⟩
    · exact d.new o ho
  · have := d.stay o ho hu
    refine insR_mem.2 (.inr ⟨this, ?_⟩)
    have h4 := h3 o this
    have h5 := (g.fit o this).2.1
    show o.lo ≠ a
    omega
theorem did_drop {X X' : SG} (d : Did X X') (g : GoodG X') (n : Int) : Did X (dropE X' n).1 := by
  unfold dropE
  cases h : atS X' n with
  | none => exact d
  | some y =>
    simp only []
    split
    · exact d
    · rename_i hu0
      refine ⟨d.pl, fun o ho => d.new o (List.mem_filter.1 ho).1, fun o ho hu => ?_⟩
      have := d.stay o ho hu
      refine List.mem_filter.2 ⟨this, ?_⟩
      simp only [ne_eq, decide_eq_true_eq]
      intro e
      have := g.one this (atS_some h).1 e
      subst this
      exact hu0 hu
section
variable {w : World} {C : SgC w} {sp p g : Nat} {I : Nat → Prop} {c : Addr} {L : List Nat} {X : SG} {w' : World}
/-- Behind a call: what is left, of whatever state it was since the first one X0. -/
def Now (C : SgC w) (sp p g : Nat) (c : Addr) (L : List Nat) (X0 : SG) (B : Nat) (S0 : Nat → Prop) (w' w2 : World) : Prop :=
  ∃ I' X', OSg C sp p g I' c L X' w2 ∧ Did X0 X' ∧ (∀ b, SO p g I' X' b → S0 b ∨ B ≤ b) ∧ Upd S0 w' w2
theorem any_page (h : OSg C sp p g I c L X w') {n : Int} (hn : I64B n) :
    Calls Tryd.prog 25 #[.pointer (some ⟨sp, 0, none⟩), .int .i64 n] w' fun e w2 => ∃ v E, e = .returned (.tuple #[v, .int .i64 E]) ∧ ∃ I' X', OSg C sp p g I' c L X' w2 ∧ (∀ X0, Did X0 X → Did X0 X') ∧ Grown p g I X I' X' w'.heap.size ∧ Upd (SO p g I X) w' w2 := by
  by_cases hb : n < 0 ∨ 12 ≤ n
  · exact (os_page_bad h hn hb).mono fun e w2 ⟨k1, k2, k3⟩ => ⟨_, _, k1, I, X, k2, fun _ d => d, Grown.refl, (updFalse_of k3).mono fun _ x => x.elim⟩
  · obtain ⟨m, rfl⟩ := Int.eq_ofNat_of_zero_le (show 0 ≤ n by omega)
    have hm : m < 12 := by omega
    cases hl : MarkMath.low X.K (slicesAt m) with
    | none => exact (os_page_full h hm hl).mono fun e w2 ⟨k1, k2, k3⟩ => ⟨_, _, k1, I, X, k2, fun _ d => d, Grown.refl, (updFalse_of k3).mono fun _ x => x.elim⟩
    | some a =>
      have hw := (slices_bounds hm).1
      exact (os_page h hm hl).mono fun e w2 ⟨op, pp, I', k1, k2, _, _, k5, k6⟩ => ⟨_, _, k1, I', _, k2, fun _ d => did_add d h.sg.good hw (MarkMath.low_some hw hl).1, k5, k6⟩
theorem any_big (h : OSg C sp p g I c L X w') {n : Int} (hn : I64B n) :
    Calls Tryd.prog 15 #[.pointer (some ⟨sp, 0, none⟩), .int .i64 n] w' fun e w2 => ∃ v E, e = .returned (.tuple #[v, .int .i64 E]) ∧ ∃ I' X', OSg C sp p g I' c L X' w2 ∧ (∀ X0, Did X0 X → Did X0 X') ∧ Grown p g I X I' X' w'.heap.size ∧ Upd (SO p g I X) w' w2 := by
  by_cases hb : n < 1 ∨ 15 < n
  · exact (os_big_bad h hn hb).mono fun e w2 ⟨k1, k2, k3⟩ => ⟨_, _, k1, I, X, k2, fun _ d => d, Grown.refl, (updFalse_of k3).mono fun _ x => x.elim⟩
  · obtain ⟨m, rfl⟩ := Int.eq_ofNat_of_zero_le (show 0 ≤ n by omega)
    have hm : 1 ≤ m := by omega
    have hm2 : m ≤ 15 := by omega
    cases hl : MarkMath.low X.K m with
    | none => exact (os_big_full h hm hm2 hl).mono fun e w2 ⟨k1, k2, k3⟩ => ⟨_, _, k1, I, X, k2, fun _ d => d, Grown.refl, (updFalse_of k3).mono fun _ x => x.elim⟩
    | some a => exact (os_big h hm hm2 hl).mono fun e w2 ⟨op, pp, I', k1, k2, _, _, k5, k6⟩ => ⟨_, _, k1, I', _, k2, fun _ d => did_add d h.sg.good hm (MarkMath.low_some hm hl).1, k5, k6⟩
theorem any_drop (h : OSg C sp p g I c L X w') {n : Int} (hn : I64B n) :
    Calls Tryd.prog 18 #[.pointer (some ⟨sp, 0, none⟩), .int .i64 n] w' fun e w2 => ∃ E, e = .returned (.int .i64 E) ∧ ∃ I' X', OSg C sp p g I' c L X' w2 ∧ (∀ X0, Did X0 X → Did X0 X') ∧ Grown p g I X I' X' w'.heap.size ∧ Upd (SO p g I X) w' w2 :=
  (os_drop h hn).mono fun e w2 ⟨I', k1, k2, k3, k4⟩ => ⟨_, k1, I', _, k2, fun _ d => did_drop d h.sg.good n, k3, k4⟩
end
theorem i64_bd9 {n : Int} (h : (Lit.int .i64 n).wf = true) : -9223372036854775808 ≤ n ∧ n ≤ 9223372036854775807 := by
  simp [Lit.wf, IntKind.min, IntKind.max, IntKind.signed, IntKind.bits] at h; omega
theorem u64_bd9 {n : Int} (h : (Lit.int .u64 n).wf = true) : n = ((n.toNat : Nat) : Int) ∧ n.toNat ≤ 18446744073709551615 := by
  simp [Lit.wf, IntKind.min, IntKind.max, IntKind.signed, IntKind.bits] at h; omega
theorem cell_then {w w' : World} {a : Addr} {v : Value} (h : w.cell? a = some v) (hb : Below w.heap.size w w') : w'.cell? a = some v := (hb.cell (p := a) (World.block_lt_of_cell? w _ h)).trans h
theorem act10 {w : World} {a : Option Addr} {n cap len : Nat} {F : Nat → Nat → Value} (h : Recs w (.slice a n cap) [.num .i64, .num .i64, .num .u64] len F) {i : Nat} (hi : i < len) :
    ∃ b off k z, ∃ X : Nat, a = some ⟨b, off, none⟩ ∧ (∀ w', Below w.heap.size w w' → w'.cell? ⟨b, off + i * 3, none⟩ = some (.int .i64 k) ∧ w'.cell? ⟨b, off + i * 3 + 1, none⟩ = some (.int .i64 z) ∧ w'.cell? ⟨b, off + i * 3 + 2, none⟩ = some (.int .u64 (X : Int))) ∧ (-9223372036854775808 ≤ k ∧ k ≤ 9223372036854775807) ∧ (-9223372036854775808 ≤ z ∧ z ≤ 9223372036854775807) ∧ X ≤ 18446744073709551615 := by
  obtain ⟨b, off, rfl, hc⟩ := h.elem hi
  have c0 := hc 0 (by simp)
  have c1 := hc 1 (by simp)
  have c2 := hc 2 (by simp)
  have l0 := leaf_int (h.leaf hi 0 _ rfl)
  have l1 := leaf_int (h.leaf hi 1 _ rfl)
  have l2 := leaf_int (h.leaf hi 2 _ rfl)
  rw [l0.1] at c0
  rw [l1.1] at c1
  rw [l2.1, (u64_bd9 l2.2).1] at c2
  exact ⟨b, off, _, _, _, rfl, fun w' hb => ⟨cell_then c0 hb, cell_then c1 hb, cell_then c2 hb⟩, i64_bd9 l0.2, i64_bd9 l1.2, (u64_bd9 l2.2).2⟩
def DoR (w : World) (C : SgC w) (sp p g : Nat) (I : Nat → Prop) (c : Addr) (L : List Nat) (X : SG) (w' : World) (len : Nat) (i : Value) (wr : World) : Prop :=
  ∃ (j : Nat) (I' : Nat → Prop) (X' : SG), j ≤ len ∧ i = .int .i64 (j : Int) ∧ OSg C sp p g I' c L X' wr ∧ Did X X' ∧ Grown p g I X I' X' w'.heap.size ∧ Upd (SO p g I X) w' wr
theorem DoR.next {w : World} {C : SgC w} {sp p g : Nat} {I I1 I2 : Nat → Prop} {c : Addr} {L : List Nat} {X X1 X2 : SG} {w' w1 w2 : World} {len j : Nat} (hj : j ≤ len) (h : OSg C sp p g I2 c L X2 w2) (d : Did X X2) (g1 : Grown p g I X I1 X1 w'.heap.size) (u1 : Upd (SO p g I X) w' w1) (g2 : Grown p g I1 X1 I2 X2 w1.heap.size) (u2 : Upd (SO p g I1 X1) w1 w2) : DoR w C sp p g I c L X w' len (.int .i64 (j : Int)) w2 :=
  ⟨j, I2, X2, hj, rfl, h, d, fun b hb => by
    rcases g2 b hb with x | x
    · exact g1 b x
    · exact .inr (Nat.le_trans u1.size x), u1.onto (u2.mono g1)⟩
set_option maxHeartbeats 4000000 in
theorem do_any (w : World) (C : SgC w) {sp p g : Nat} {I : Nat → Prop} {c : Addr} {L : List Nat} {X : SG} {w' : World} (h : OSg C sp p g I c L X w') {a : Option Addr} {n cap len : Nat} {F : Nat → Nat → Value} (hr : Recs w (.slice a n cap) [.num .i64, .num .i64, .num .u64] len F) (hlen : len ≤ 60) :
    Calls Tryd.prog 30 #[.pointer (some ⟨sp, 0, none⟩), .slice a n cap] w' fun e w2 => e = .returned (.tuple #[]) ∧ ∃ I' X', OSg C sp p g I' c L X' w2 ∧ Did X X' ∧ Grown p g I X I' X' w'.heap.size ∧ Upd (SO p g I X) w' w2 := by
  obtain ⟨rfl, _, _⟩ := hr.len
  have HF := Lib.hid hr
  have I0 := Lib.hid (show DoR w C sp p g I c L X w' n (.int .i64 0) w' from ⟨0, I, X, Nat.zero_le _, rfl, h, Did.refl X, Grown.refl, Upd.refl _ _⟩)
  clear h hr
  go_enter Tryd.func30, Tryd.ntmps30
  go_wp2
  go_loopw [8] (fun i wr => DoR w C sp p g I c L X w' n i wr) (fun i _ => n - (intOf i).toNat)
  case atStart => exact I0.out
  case round =>
    clear I0
    obtain ⟨j, I1, X1, hj, rfl, ho, hd, hg, hu⟩ := hrel
    by_cases hjl : j < n
    · obtain ⟨b2, off2, kd, wh, Z, ea, hact, hkd, hwh, hZ⟩ := act10 HF.out hjl
      obtain ⟨x0, x1, x2⟩ := hact wr ho.below
      subst ea
      have t2 : decide ((j : Int) < (n : Int)) = true := decide_eq_true (by omega)
      have t2' : decide (j < n) = true := decide_eq_true hjl
      have q3 : (0 : Int) ≤ (j : Int) := by omega
      have q4 : (j : Int) < (n : Int) := by omega
      have HO := Lib.hid ho; have HD := Lib.hid hd; have HG := Lib.hid hg; have HU := Lib.hid hu
      clear hact ho hd hg hu
      have bA := Blk.new wr 36 #[.int .i64 kd, .int .i64 wh, .int .u64 (Z : Int)]
      obtain ⟨W1, hW1⟩ : ∃ x, wr.alloc (.cells #[.int .i64 kd, .int .i64 wh, .int .u64 (Z : Int)] 36) = x := ⟨_, rfl⟩
      obtain ⟨bc, hbc⟩ : ∃ b, wr.heap.size = b := ⟨_, rfl⟩
      rw [hW1, hbc] at bA
      have m0 : W1.cell? ⟨bc, 0, none⟩ = some (.int .i64 kd) := bA.cell 0
      have m1 : W1.cell? ⟨bc, 1, none⟩ = some (.int .i64 wh) := bA.cell 1
      have hgr : Below wr.heap.size wr W1 := by rw [← hW1]; exact (Below.refl _ wr).alloc (Nat.le_refl _) _
      have O1 := Lib.hid (HO.out.grew hgr)
      have UA := Lib.hid (HU.out.trans ((updFalse_of hgr).mono fun _ x => x.elim))
      have ej : (((j + 1 : Nat)) : Int) = (j : Int) + 1 := by omega
      clear hgr bA HU HO
      by_cases h0 : kd = 0
      · subst h0
        go_wp2_with fail
        refine (any_page O1.out hwh).mono ?_; rintro e w6 ⟨v, E, rfl, I6, X6, h6, d6, g6, u6⟩
        have NX := Lib.hid (DoR.next (len := n) (j := j + 1) (by omega) h6 (d6 X HD.out) HG.out UA.out g6 u6)
        rw [ej] at NX
        clear h6 d6 g6 u6
        go_wp2
        go_roundw
        case rel => exact NX.out
        case measure => simp [intOf]; omega
      · have t0 : (kd == 0) = false := by rw [beq_eq_false_iff_ne]; exact h0
        by_cases h1 : kd = 1
        · subst h1
          go_wp2_with fail
          refine (any_big O1.out hwh).mono ?_; rintro e w6 ⟨v, E, rfl, I6, X6, h6, d6, g6, u6⟩
          have NX := Lib.hid (DoR.next (len := n) (j := j + 1) (by omega) h6 (d6 X HD.out) HG.out UA.out g6 u6)
          rw [ej] at NX
          clear h6 d6 g6 u6
          go_wp2
          go_roundw
          case rel => exact NX.out
          case measure => simp [intOf]; omega
        · have t1 : (kd == 1) = false := by rw [beq_eq_false_iff_ne]; exact h1
          by_cases h2 : kd = 2
          · subst h2
            go_wp2_with fail
            refine (any_drop O1.out hwh).mono ?_; rintro e w6 ⟨E, rfl, I6, X6, h6, d6, g6, u6⟩
            have NX := Lib.hid (DoR.next (len := n) (j := j + 1) (by omega) h6 (d6 X HD.out) HG.out UA.out g6 u6)
            rw [ej] at NX
            clear h6 d6 g6 u6
            go_wp2
            go_roundw
            case rel => exact NX.out
            case measure => simp [intOf]; omega
          · have t3 : (kd == 2) = false := by rw [beq_eq_false_iff_ne]; exact h2
            have NX : Hid (DoR w C sp p g I c L X w' n (.int .i64 ((j + 1 : Nat) : Int)) W1) := Lib.hid ⟨j + 1, I1, X1, by omega, rfl, O1.out, HD.out, HG.out, UA.out⟩
            rw [ej] at NX
            go_wp2
            go_roundw
            case rel => exact NX.out
            case measure => simp [intOf]; omega
    · obtain rfl : j = n := by omega
      have t2 : decide ((j : Int) < (j : Int)) = false := decide_eq_false (by omega)
      have HO := Lib.hid ho; have HD := Lib.hid hd; have HG := Lib.hid hg; have HU := Lib.hid hu
      clear ho hd hg hu
      go_wp2
      refine bodyPost_end (results_none rfl _ _ _) rfl ?_
      exact ⟨rfl, I1, X1, HO.out, HD.out, HG.out, HU.out⟩
end Go.Proofs.YtomepdgddpajoaaDoor
