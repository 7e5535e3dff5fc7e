/- The document's answers for layer 1: Sum, Mul, Ends: contracts. -/
import Derived.Test.YtfkbgejapmhppaaRef4
namespace Go.Proofs.Ytfkbgejapmhppaa
open Go.RowKit
open Dig (I64s Norm RetLong)

theorem sum_back (l : List Nat) : CalcMath.sumV l = Dig.backV (CalcMath.sumN l) ∧ CalcMath.sumE l = Dig.backE (CalcMath.sumN l) := ⟨rfl, rfl⟩
theorem mul_back (l : List Nat) : CalcMath.mulV l = Dig.backV (CalcMath.prodN l) ∧ CalcMath.mulE l = Dig.backE (CalcMath.prodN l) := ⟨rfl, rfl⟩

theorem sum_bound (l : List Nat) (hv : ∀ j, l.getD j 0 ≤ 18446744073709551615) : ∀ k, k ≤ l.length → CalcMath.sumN (l.take k) ≤ k * 18446744073709551615
  | 0, _ => by simp [CalcMath.sumN]
  | k + 1, h => by
    rw [CalcMath.sumN_snoc l k (by omega), Nat.succ_mul]
    have := sum_bound l hv k (by omega)
    have := hv k
    omega
theorem sum_pow (l : List Nat) (hl : l.length ≤ 300) (hv : ∀ j, l.getD j 0 ≤ 18446744073709551615) (k : Nat) (hk : k ≤ l.length) : CalcMath.sumN (l.take k) < 10000 ^ 6 := by
  have h1 := sum_bound l hv k hk
  have h2 : k * 18446744073709551615 ≤ 300 * 18446744073709551615 := Nat.mul_le_mul_right _ (by omega)
  have : (10000 : Nat) ^ 6 = 1000000000000000000000000 := by decide
  omega

def SumRel (w : World) (l : List Nat) (n i : Value) (wr : World) : Prop :=
  ∃ (k : Nat) (R : List Nat), k ≤ l.length ∧ i = .int .i64 k ∧ I64s wr n R ∧ Norm R ∧ Dig.val R = CalcMath.sumN (l.take k) ∧ Below w.heap.size w wr

set_option maxHeartbeats 400000 in
theorem rsum_cells (w : World) (b off cap : Nat) (l : List Nat) (hl : l.length ≤ 300) (hv : ∀ j, l.getD j 0 ≤ 18446744073709551615)
    (hc : ∀ j, j < l.length → w.cell? ⟨b, off + j, none⟩ = some (.int .u64 ((l.getD j 0 : Nat) : Int))) :
    Calls Try.prog 20 #[.slice (some ⟨b, off, none⟩) l.length cap] w fun e w' => e = .returned (.tuple #[.int .u64 (CalcMath.sumV l : Nat), .int .i64 (CalcMath.sumE l : Nat)]) ∧ Below w.heap.size w w' := by
  have HC := Lib.hid hc; have HV := Lib.hid hv; clear hc hv
  go_enter Try.func20, Try.ntmps20
  go_wp2
  go_loopw [4, 9] (fun n i wr => SumRel w l n i wr) (fun _ i _ => l.length - (intOf i).toNat)
  case atStart => exact ⟨0, [], by omega, rfl, .inr ⟨rfl, none, 0, rfl, fun _ => rfl⟩, ⟨fun d hd => by simp at hd, .inl rfl⟩, rfl, Below.refl _ _⟩
  case round =>
    obtain ⟨k, R, hk, rfl, hr, hn, hval, hb⟩ := hrel
    have HVal := Lib.hid hval; clear hval
    have HN := Lib.hid hn; clear hn
    by_cases hlt : k < l.length
    · have hcell := HC.out k hlt
      obtain ⟨x, hx⟩ : ∃ x, l.getD k 0 = x := ⟨_, rfl⟩
      have x9 : x ≤ 18446744073709551615 := by rw [← hx]; exact HV.out k
      rw [hx] at hcell
      have bx := World.block_lt_of_cell? w _ hcell
      have gx : wr.cell? ⟨b, off + k, none⟩ = some (.int .u64 (x : Int)) := by rw [hb.cell (p := ⟨b, off + k, none⟩) bx]; exact hcell
      have hsn := CalcMath.sumN_snoc l k hlt
      rw [hx] at hsn
      have HS := Lib.hid hsn
      have hp := sum_pow l hl HV.out k hk
      have HP := Lib.hid hp
      clear hsn hx hcell bx hp
      go_wp2_with (go_at_call 27; refine (of_at x x9 _ rfl _).mono ?_; rintro e w1 ⟨v1, R1, rfl, r1, ⟨n1, e1⟩, b1, _⟩; have E1 := Lib.hid e1; clear e1)
      refine (Dig.plus_any w1 _ v1 R R1 HN.out.1 n1.1 (hr.below (Nat.le_refl _) b1) r1 (norm_small HN.out (k := 6) (by rw [HVal.out]; exact HP.out) (by omega)) (norm_small n1 (k := 5) (by rw [E1.out]; exact u64_pow x9) (by omega))).mono ?_; rintro e w2 ⟨v2, R2, rfl, r2, ⟨n2, e2⟩, b2, _⟩
      have b12 := b1.trans (b2.mono b1.size)
      have bw := hb.trans (b12.mono hb.size)
      have ev : Dig.val R2 = CalcMath.sumN (l.take (k + 1)) := by rw [e2, E1.out, HVal.out, HS.out]
      have EV := Lib.hid ev; clear ev e2
      go_wp2
      exact ⟨⟨k + 1, R2, by omega, int_eq (by omega), r2, n2, EV.out, bw⟩, by simp only [intOf]; omega⟩
    · obtain rfl : k = l.length := by omega
      have hp := sum_pow l hl HV.out l.length (Nat.le_refl _)
      have hR := HVal.out
      rw [List.take_length] at hR hp
      have HR := Lib.hid hR
      have HP := Lib.hid hp
      clear hR hp
      go_wp2_with fail
      have hbk := Dig.back_any wr _ R HN.out hr (norm_small HN.out (k := 6) (by rw [HR.out]; exact HP.out) (by omega))
      rw [HR.out, ← (sum_back l).1, ← (sum_back l).2] at hbk
      refine hbk.mono ?_; rintro e w4 ⟨rfl, b4⟩
      have bw := hb.trans (b4.mono hb.size)
      clear hbk
      go_wp2
      go_ret2
      exact ⟨rfl, bw⟩

theorem rsum_none (a : Option Addr) (cap : Nat) (w : World) :
    Calls Try.prog 20 #[.slice a 0 cap] w fun e w' => e = .returned (.tuple #[.int .u64 (CalcMath.sumV [] : Nat), .int .i64 (CalcMath.sumE [] : Nat)]) ∧ Below w.heap.size w w' := by
  go_enter Try.func20, Try.ntmps20
  go_wp2
  go_loop [4, 9] (fun n i => n = .slice none 0 0 ∧ i = .int .i64 0) (fun _ i => 0 - (intOf i).toNat)
  case atStart => exact ⟨rfl, rfl⟩
  case round =>
    obtain ⟨rfl, rfl⟩ := hrel
    go_wp2_with fail
    have hbk := Dig.back_any w (.slice none 0 0) [] ⟨fun d hd => by simp at hd, .inl rfl⟩ (.inr ⟨rfl, none, 0, rfl, fun _ => rfl⟩) (by simp)
    refine hbk.mono ?_; rintro e w4 ⟨rfl, b4⟩
    clear hbk
    go_wp2
    go_ret2
    exact ⟨rfl, b4⟩

/-! ### The product: beyond twelve digits the lower ones are left -/
def Near (v P : Nat) : Prop := v = P ∨ (10000 ^ 11 ≤ v ∧ 10000 ^ 11 ≤ P)

theorem near_zero {v P : Nat} (h : Near v P) : v = 0 ↔ P = 0 := by
  have : (0 : Nat) < 10000 ^ 11 := Dig.pow_pos 11
  rcases h with h | ⟨h1, h2⟩
  · rw [h]
  · omega
theorem near_mul {v P x : Nat} (h : Near v P) : Near (v * x) (P * x) := by
  by_cases hx : x = 0
  · subst hx; left; simp
  · rcases h with h | ⟨h1, h2⟩
    · left; rw [h]
    · right
      exact ⟨Nat.le_trans h1 (Nat.le_mul_of_pos_right _ (by omega)), Nat.le_trans h2 (Nat.le_mul_of_pos_right _ (by omega))⟩
theorem near_cut {R : List Nat} {P : Nat} (hn : Norm R) (h : Near (Dig.val R) P) (hl : 12 < R.length) : Norm (R.drop (R.length - 12)) ∧ Near (Dig.val (R.drop (R.length - 12))) P ∧ (R.drop (R.length - 12)).length = 12 := by
  have hlen : (R.drop (R.length - 12)).length = 12 := by simp; omega
  have hlast : (R.drop (R.length - 12)).getD 11 0 = R.getD (R.length - 1) 0 := by
    simp only [List.getD_eq_getElem?_getD, List.getElem?_drop]
    rw [show R.length - 12 + 11 = R.length - 1 by omega]
  have hN : Norm (R.drop (R.length - 12)) := by
    refine ⟨Dig.small_drop hn.1 _, .inr ?_⟩
    rw [hlen, show 12 - 1 = 11 from rfl, hlast]
    rcases hn.2 with h0 | h0
    · omega
    · exact h0
  have ge := Dig.norm_ge hN (by omega)
  rw [hlen] at ge
  have big := Dig.norm_ge hn (by omega)
  have hp : 10000 ^ 11 ≤ 10000 ^ (R.length - 1) := Nat.pow_le_pow_right (by decide) (by omega)
  refine ⟨hN, .inr ⟨ge, ?_⟩, hlen⟩
  rcases h with h | ⟨_, h2⟩
  · omega
  · exact h2
theorem near_back {v P : Nat} (h : Near v P) : Dig.backV v = Dig.backV P ∧ Dig.backE v = Dig.backE P := by
  have : (10000 : Nat) ^ 11 = 100000000000000000000000000000000000000000000 := by decide
  rcases h with h | ⟨h1, h2⟩
  · rw [h]; exact ⟨rfl, rfl⟩
  · unfold Dig.backV Dig.backE
    rw [if_neg (by omega), if_neg (by omega), if_neg (by omega), if_neg (by omega)]
    exact ⟨rfl, rfl⟩

theorem prod_len {R R1 R2 : List Nat} (hR : Dig.Small R) (hl : R.length ≤ 12) (h1 : Dig.val R1 < 10000 ^ 5) (e : Dig.val R2 = Dig.val R * Dig.val R1) (n2 : Norm R2) : R2.length ≤ 17 := by
  refine Dig.norm_len n2 17 ?_
  have h2 := Dig.val_lt R hR
  have h3 : 10000 ^ R.length ≤ 10000 ^ 12 := Nat.pow_le_pow_right (by decide) hl
  rw [e, show (10000 : Nat) ^ 17 = 10000 ^ 12 * 10000 ^ 5 from (Nat.pow_add 10000 12 5)]
  exact Nat.mul_lt_mul_of_lt_of_le (by omega) (Nat.le_of_lt h1) (Dig.pow_pos 5)

def MulRel (w : World) (l : List Nat) (n i : Value) (wr : World) : Prop :=
  ∃ (k : Nat) (R : List Nat), k ≤ l.length ∧ i = .int .i64 k ∧ I64s wr n R ∧ Norm R ∧ R.length ≤ 12 ∧ Near (Dig.val R) (CalcMath.prodN (l.take k)) ∧ Below w.heap.size w wr

theorem one_at (w : World) (e : TypeId) : I64s (w.alloc (.cells #[.int .i64 1] e)) (.slice (some ⟨w.heap.size, 0, none⟩) 1 1) [1] := Dig.I64s.one_new w e 1

set_option maxHeartbeats 800000 in
theorem rmul_cells (w : World) (b off cap : Nat) (l : List Nat) (hl : l.length ≤ 300) (hv : ∀ j, l.getD j 0 ≤ 18446744073709551615)
    (hc : ∀ j, j < l.length → w.cell? ⟨b, off + j, none⟩ = some (.int .u64 ((l.getD j 0 : Nat) : Int))) :
    Calls Try.prog 22 #[.slice (some ⟨b, off, none⟩) l.length cap] w fun e w' => e = .returned (.tuple #[.int .u64 (CalcMath.mulV l : Nat), .int .i64 (CalcMath.mulE l : Nat)]) ∧ Below w.heap.size w w' := by
  have HC := Lib.hid hc; have HV := Lib.hid hv; clear hc hv
  go_enter Try.func22, Try.ntmps22
  go_wp2
  go_loopw [4, 10] (fun n i wr => MulRel w l n i wr) (fun _ i _ => l.length - (intOf i).toNat)
  case atStart => exact ⟨0, [1], by omega, rfl, one_at w _, ⟨fun d hd => by simp at hd; omega, .inr (by decide)⟩, by simp, .inl rfl, (Below.refl _ _).alloc (Nat.le_refl _) _⟩
  case round =>
    obtain ⟨k, R, hk, rfl, hr, hn, hlen, hval, hb⟩ := hrel
    have HVal := Lib.hid hval; clear hval
    have HN := Lib.hid hn; clear hn
    by_cases hlt : k < l.length
    · have hcell := HC.out k hlt
      obtain ⟨x, hx⟩ : ∃ x, l.getD k 0 = x := ⟨_, rfl⟩
      have x9 : x ≤ 18446744073709551615 := by rw [← hx]; exact HV.out k
      rw [hx] at hcell
      have bx := World.block_lt_of_cell? w _ hcell
      have gx : wr.cell? ⟨b, off + k, none⟩ = some (.int .u64 (x : Int)) := by rw [hb.cell (p := ⟨b, off + k, none⟩) bx]; exact hcell
      have hsn := CalcMath.prodN_snoc l k hlt
      rw [hx] at hsn
      have HS := Lib.hid hsn
      clear hsn hx hcell bx
      go_wp2_with (go_at_call 27; refine (of_at x x9 _ rfl _).mono ?_; rintro e w1 ⟨v1, R1, rfl, r1, ⟨n1, e1⟩, b1, _⟩; have E1 := Lib.hid e1; clear e1)
      refine (Dig.times_any w1 _ v1 R R1 HN.out.1 n1.1 (hr.below (Nat.le_refl _) b1) r1 (by omega) (norm_small n1 (k := 5) (by rw [E1.out]; exact u64_pow x9) (by omega))).mono ?_; rintro e w2 ⟨v2, R2, rfl, r2, ⟨n2, e2⟩, b2, ft⟩
      have b12 := b1.trans (b2.mono b1.size)
      have bw := hb.trans (b12.mono hb.size)
      have ev : Near (Dig.val R2) (CalcMath.prodN (l.take (k + 1))) := by rw [e2, E1.out, HS.out]; exact near_mul HVal.out
      have l17 := prod_len HN.out.1 hlen (by rw [E1.out]; exact u64_pow x9) e2 n2
      have EV := Lib.hid ev; clear ev e2
      obtain ⟨a2, cap2, rfl, _⟩ := r2.shape
      have hcap := ft _ _ _ rfl
      clear ft
      by_cases h12 : 12 < R2.length
      · obtain ⟨sv, run, RD⟩ := Dig.slice_from (P := Try.prog) 41 Try.underlying41 Dig.sizeLong a2 R2.length cap2 (R2.length - 12) (by omega) hcap
        have e12 : ((R2.length : Int) - 12) = ((R2.length - 12 : Nat) : Int) := by omega
        rw [← e12] at run
        have CUT := Lib.hid (near_cut n2 EV.out h12)
        have RR := Lib.hid (RD w2 R2 r2)
        clear RD e12 hcap
        go_wp2
        exact ⟨⟨k + 1, _, by omega, int_eq (by omega), RR.out, CUT.out.1, by rw [CUT.out.2.2]; omega, CUT.out.2.1, bw⟩, by simp only [intOf]; omega⟩
      · clear hcap
        have RR := Lib.hid r2
        have N2 := Lib.hid n2
        clear r2 n2
        go_wp2
        exact ⟨⟨k + 1, R2, by omega, int_eq (by omega), RR.out, N2.out, by omega, EV.out, bw⟩, by simp only [intOf]; omega⟩
    · obtain rfl : k = l.length := by omega
      have hR := HVal.out
      rw [List.take_length] at hR
      have HR := Lib.hid (near_back hR)
      clear hR
      go_wp2_with fail
      have hbk := Dig.back_any wr _ R HN.out hr (by omega)
      rw [HR.out.1, HR.out.2, ← (mul_back l).1, ← (mul_back l).2] at hbk
      refine hbk.mono ?_; rintro e w4 ⟨rfl, b4⟩
      have bw := hb.trans (b4.mono hb.size)
      clear hbk
      go_wp2
      go_ret2
      exact ⟨rfl, bw⟩

theorem rmul_none (a : Option Addr) (cap : Nat) (w : World) :
    Calls Try.prog 22 #[.slice a 0 cap] w fun e w' => e = .returned (.tuple #[.int .u64 (CalcMath.mulV [] : Nat), .int .i64 (CalcMath.mulE [] : Nat)]) ∧ Below w.heap.size w w' := by
  go_enter Try.func22, Try.ntmps22
  go_wp2
  go_loop [4, 10] (fun n i => n = .slice (some ⟨w.heap.size, 0, none⟩) 1 1 ∧ i = .int .i64 0) (fun _ i => 0 - (intOf i).toNat)
  case atStart => exact ⟨rfl, rfl⟩
  case round =>
    obtain ⟨rfl, rfl⟩ := hrel
    go_wp2_with fail
    have hbk := Dig.back_any _ _ [1] ⟨fun d hd => by simp at hd; omega, .inr (by decide)⟩ (one_at w 3) (by simp)
    refine hbk.mono ?_; rintro e w4 ⟨rfl, b4⟩
    have bw := ((Below.refl w.heap.size w).alloc (Nat.le_refl _) (.cells #[.int .i64 1] 3)).trans (b4.mono (by simp))
    clear hbk
    go_wp2
    go_ret2
    exact ⟨rfl, bw⟩

/-! ### Ends -/
theorem fold_most (l : List Nat) (h : 0 < l.length) : l.foldl max (l.getD 0 0) = CalcMath.mostN l := by
  cases l with
  | nil => simp at h
  | cons x r => simp [CalcMath.mostN]
theorem fold_least (l : List Nat) (h : 0 < l.length) : l.foldl min (l.getD 0 0) = CalcMath.leastN l := by
  cases l with
  | nil => simp at h
  | cons x r => simp [CalcMath.leastN]

def EndsRel (l : List Nat) (a b i : Value) : Prop := ∃ k : Nat, k ≤ l.length ∧ i = .int .i64 k ∧ a = .int .u64 ((l.take k).foldl max (l.getD 0 0) : Nat) ∧ b = .int .u64 ((l.take k).foldl min (l.getD 0 0) : Nat)

theorem rends_none (a : Option Addr) (cap : Nat) (w : World) :
    Calls Try.prog 25 #[.slice a 0 cap] w fun e w' => e = .returned (.tuple #[.int .u64 0, .int .u64 0, .int .i64 5]) ∧ w = w' := by
  go_enter Try.func25, Try.ntmps25
  go_wp2
  go_ret3
  exact ⟨rfl, rfl⟩

set_option maxHeartbeats 400000 in
theorem rends_cells (w : World) (b off cap : Nat) (l : List Nat) (hn : 0 < l.length) (hl : l.length ≤ 9223372036854775807)
    (hc : ∀ j, j < l.length → w.cell? ⟨b, off + j, none⟩ = some (.int .u64 ((l.getD j 0 : Nat) : Int))) :
    Calls Try.prog 25 #[.slice (some ⟨b, off, none⟩) l.length cap] w fun e w' => e = .returned (.tuple #[.int .u64 (CalcMath.mostN l : Nat), .int .u64 (CalcMath.leastN l : Nat), .int .i64 0]) ∧ Below w.heap.size w w' := by
  have HC := Lib.hid hc; clear hc
  have h0 := HC.out 0 hn
  obtain ⟨z, hz⟩ : ∃ z, l.getD 0 0 = z := ⟨_, rfl⟩
  rw [hz, Nat.add_zero] at h0
  have HZ := Lib.hid hz; clear hz
  have hne : ((l.length : Int) == 0) = false := beq_eq_false_iff_ne.2 (by omega)
  have hpos : (0 : Int) < (l.length : Int) := by omega
  go_enter Try.func25, Try.ntmps25
  go_wp2_with fail
  go_quiet (fail)
  go_wp2
  go_loop [5, 6, 20] (fun a b i => EndsRel l a b i) (fun _ _ i => l.length - (intOf i).toNat)
  case atStart => exact ⟨0, by omega, rfl, by rw [HZ.out]; rfl, by rw [HZ.out]; rfl⟩
  case round =>
    clear h0
    obtain ⟨k, hk, rfl, rfl, rfl⟩ := hrel
    by_cases hlt : k < l.length
    · have hcell := HC.out k hlt
      obtain ⟨x, hx⟩ : ∃ x, l.getD k 0 = x := ⟨_, rfl⟩
      rw [hx] at hcell
      have hs := CalcMath.take_snoc l k hlt
      rw [hx] at hs
      have H1 : (l.take (k + 1)).foldl max (l.getD 0 0) = max ((l.take k).foldl max (l.getD 0 0)) x := by rw [hs, List.foldl_append]; rfl
      have H2 : (l.take (k + 1)).foldl min (l.getD 0 0) = min ((l.take k).foldl min (l.getD 0 0)) x := by rw [hs, List.foldl_append]; rfl
      have HH1 := Lib.hid H1; have HH2 := Lib.hid H2
      generalize hp : (l.take k).foldl max (l.getD 0 0) = p at *
      generalize hq : (l.take k).foldl min (l.getD 0 0) = q at *
      clear H1 H2 hs hx hp hq
      go_wp2
      exact ⟨⟨k + 1, by omega, int_eq (by omega), by rw [HH1.out, ← CalcMath.max_int], by rw [HH2.out, ← CalcMath.min_int]⟩, by simp only [intOf]; omega⟩
    · obtain rfl : k = l.length := by omega
      have e1 : (l.take l.length).foldl max (l.getD 0 0) = CalcMath.mostN l := by rw [List.take_length]; exact fold_most l hn
      have e2 : (l.take l.length).foldl min (l.getD 0 0) = CalcMath.leastN l := by rw [List.take_length]; exact fold_least l hn
      rw [e1, e2]
      clear e1 e2
      go_wp2
      go_ret3
      exact ⟨rfl, below_drewN (Below.refl _ _) _⟩

/-! ### Each of what reads as a list -/
theorem rsum_any (w : World) (v : Value) (l : List Nat) (h : U64s w v l) (hl : l.length ≤ 300) (hv : ∀ j, l.getD j 0 ≤ 18446744073709551615) :
    Calls Try.prog 20 #[v] w fun e w' => e = .returned (.tuple #[.int .u64 (CalcMath.sumV l : Nat), .int .i64 (CalcMath.sumE l : Nat)]) ∧ Below w.heap.size w w' := by
  rcases h with ⟨b, off, cap, rfl, hc⟩ | ⟨rfl, a, cap, rfl, _⟩
  · exact rsum_cells w b off cap l hl hv hc
  · exact rsum_none a cap w
theorem rmul_any (w : World) (v : Value) (l : List Nat) (h : U64s w v l) (hl : l.length ≤ 300) (hv : ∀ j, l.getD j 0 ≤ 18446744073709551615) :
    Calls Try.prog 22 #[v] w fun e w' => e = .returned (.tuple #[.int .u64 (CalcMath.mulV l : Nat), .int .i64 (CalcMath.mulE l : Nat)]) ∧ Below w.heap.size w w' := by
  rcases h with ⟨b, off, cap, rfl, hc⟩ | ⟨rfl, a, cap, rfl, _⟩
  · exact rmul_cells w b off cap l hl hv hc
  · exact rmul_none a cap w
theorem rends_any (w : World) (v : Value) (l : List Nat) (h : U64s w v l) (hl : l.length ≤ 300) :
    Calls Try.prog 25 #[v] w fun e w' => e = .returned (.tuple #[.int .u64 (CalcMath.mostN l : Nat), .int .u64 (CalcMath.leastN l : Nat), .int .i64 (CalcMath.endE l : Nat)]) ∧ Below w.heap.size w w' := by
  rcases h with ⟨b, off, cap, rfl, hc⟩ | ⟨rfl, a, cap, rfl, _⟩
  · by_cases hn : 0 < l.length
    · have e : CalcMath.endE l = 0 := by unfold CalcMath.endE; rw [if_neg (by omega)]
      rw [e]; exact rends_cells w b off cap l hn (by omega) hc
    · obtain rfl : l = [] := List.length_eq_zero_iff.1 (by omega)
      exact (rends_none _ cap w).mono fun e w' ⟨h1, h2⟩ => ⟨h1, by subst h2; exact Below.refl _ _⟩
  · exact (rends_none a cap w).mono fun e w' ⟨h1, h2⟩ => ⟨h1, by subst h2; exact Below.refl _ _⟩

end Go.Proofs.Ytfkbgejapmhppaa
