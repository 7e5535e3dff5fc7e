/- CalcNoughts: the walk. -/
import Derived.Test.YtfkbgejapmhppaaLawMath
namespace Go.Proofs.Ytfkbgejapmhppaa.calcNoughts
open Go.RowKit

theorem mul_nought (l : List Nat) (h : 0 ∈ l) : CalcMath.mulV l = 0 ∧ CalcMath.mulE l = 0 := by
  have := CalcMath.prodN_zero l h
  unfold CalcMath.mulV CalcMath.mulE
  rw [this]; exact ⟨rfl, rfl⟩
theorem one_le (X : Nat) (h : X ≤ 1099511627776) : (CalcMath.mulV [X] = X ∧ CalcMath.mulE [X] = 0) ∧ (CalcMath.sumV [X] = X ∧ CalcMath.sumE [X] = 0) := by
  simp [CalcMath.mulV, CalcMath.mulE, CalcMath.sumV, CalcMath.sumE, CalcMath.prodN, CalcMath.sumN, h]
theorem one_gt (X : Nat) (h : 1099511627776 < X) : (CalcMath.mulV [X] = 0 ∧ CalcMath.mulE [X] = 3) ∧ (CalcMath.sumV [X] = 0 ∧ CalcMath.sumE [X] = 3) := by
  have h' : ¬ X ≤ 1099511627776 := by omega
  simp [CalcMath.mulV, CalcMath.mulE, CalcMath.sumV, CalcMath.sumE, CalcMath.prodN, CalcMath.sumN, h']

set_option maxHeartbeats 400000 in
theorem walk_short (w : World) (a : Option Addr) (cap : Nat) (l : List Nat) (h : U64s w (.slice a l.length cap) l) (hl : l.length ≤ 300) (hv : ∀ y ∈ l, y ≤ 18446744073709551615) (X : Nat) (hX : X ≤ 18446744073709551615) :
    Calls Try.prog 9 #[.slice a l.length cap, .int .u64 (X : Int)] w fun e w' => e = .returned (.bool true) ∧ Below w.heap.size w w' := by
  obtain ⟨i0, hi, hz0, hz1, hz2⟩ := info_parts info
  have hvX : ∀ x ∈ [X], x ≤ 18446744073709551615 := by simpa using hX
  have M1 := Lib.hid (mul_list ([] ++ l ++ [0, X]) (by simp; omega) (by
    intro y hy
    simp only [List.nil_append, List.mem_append, List.mem_cons, List.not_mem_nil, or_false] at hy
    rcases hy with hy | rfl | rfl
    · exact hv y hy
    · omega
    · exact hX) (mul_nought _ (by simp)))
  have M0 := Lib.hid (mul_list [] (by simp) (by simp) (V := 1) (E := 0) ⟨rfl, rfl⟩)
  by_cases hb : X ≤ 1099511627776
  · have M2 := Lib.hid (mul_list [X] (by simp) hvX (one_le X hb).1)
    have S2 := Lib.hid (sum_list [X] (by simp) hvX (one_le X hb).2)
    clear hvX hv
    go_enter Try.func9, Try.ntmps9
    go_wp2_with (first | (go_at_call 12; refine (alive_any _).mono ?_; rintro e w1 ⟨rfl, hb⟩; have sz1 := hb.size) | (at_builtin; refine wpList_append_u64 rfl _ _ 29 rfl w.heap.size 22 i0 Try.underlying29 hi hz0 hz1 hz2 _ _ _ [0, X] rfl rfl (o1.alloc _) (U64s.two_new w2 22 0 X) ?_ ?_ ?_; simp; omega; simp; omega; intro v2 w3 o2 g2 _ b2; have sz3 := b2.size; simp only [World.size_alloc] at sz3) | (at_builtin; refine wpList_append_u64 rfl _ _ 29 rfl w.heap.size 22 i0 Try.underlying29 hi hz0 hz1 hz2 _ _ [] l rfl rfl (Own.new _ _ _ sz1) ?_ ?_ ?_ ?_; exact h.below (Nat.le_refl _) (hb.alloc sz1 _); simp; omega; simp; omega; intro v1 w2 o1 g1 _ b1; have sz2 := b1.size; simp only [World.size_alloc] at sz2))
    refine (M1.out _ _ o2.reads).mono ?_; rintro e w4 ⟨rfl, rfl⟩
    go_wp2_with fail
    refine (M2.out _ _ (U64s.one_at _ _ X _ (by simp))).mono ?_; rintro e w4 ⟨rfl, rfl⟩
    go_wp2_with fail
    refine (S2.out _ _ (U64s.one_at _ _ X _ (by simp))).mono ?_; rintro e w4 ⟨rfl, rfl⟩
    go_wp2_with fail
    refine (M0.out _ _ (U64s.nil _)).mono ?_; rintro e w4 ⟨rfl, rfl⟩
    go_wp2
    go_ret
    exact ⟨rfl, ((((((hb.alloc sz1 _).trans b1).alloc (by omega) _).trans b2).alloc (by omega) _).alloc (by simp; omega) _)⟩
  · have M2 := Lib.hid (mul_list [X] (by simp) hvX (one_gt X (by omega)).1)
    have S2 := Lib.hid (sum_list [X] (by simp) hvX (one_gt X (by omega)).2)
    clear hvX hv
    go_enter Try.func9, Try.ntmps9
    go_wp2_with (first | (go_at_call 12; refine (alive_any _).mono ?_; rintro e w1 ⟨rfl, hb⟩; have sz1 := hb.size) | (at_builtin; refine wpList_append_u64 rfl _ _ 29 rfl w.heap.size 22 i0 Try.underlying29 hi hz0 hz1 hz2 _ _ _ [0, X] rfl rfl (o1.alloc _) (U64s.two_new w2 22 0 X) ?_ ?_ ?_; simp; omega; simp; omega; intro v2 w3 o2 g2 _ b2; have sz3 := b2.size; simp only [World.size_alloc] at sz3) | (at_builtin; refine wpList_append_u64 rfl _ _ 29 rfl w.heap.size 22 i0 Try.underlying29 hi hz0 hz1 hz2 _ _ [] l rfl rfl (Own.new _ _ _ sz1) ?_ ?_ ?_ ?_; exact h.below (Nat.le_refl _) (hb.alloc sz1 _); simp; omega; simp; omega; intro v1 w2 o1 g1 _ b1; have sz2 := b1.size; simp only [World.size_alloc] at sz2))
    refine (M1.out _ _ o2.reads).mono ?_; rintro e w4 ⟨rfl, rfl⟩
    go_wp2_with fail
    refine (M2.out _ _ (U64s.one_at _ _ X _ (by simp))).mono ?_; rintro e w4 ⟨rfl, rfl⟩
    go_wp2_with fail
    refine (S2.out _ _ (U64s.one_at _ _ X _ (by simp))).mono ?_; rintro e w4 ⟨rfl, rfl⟩
    go_wp2_with fail
    refine (M0.out _ _ (U64s.nil _)).mono ?_; rintro e w4 ⟨rfl, rfl⟩
    go_wp2
    go_ret
    exact ⟨rfl, ((((((hb.alloc sz1 _).trans b1).alloc (by omega) _).trans b2).alloc (by omega) _).alloc (by simp; omega) _)⟩

theorem walk_long (w : World) (a : Option Addr) (n cap : Nat) (hl : 300 < n) (X : Int) :
    Calls Try.prog 9 #[.slice a n cap, .int .u64 X] w fun e w' => e = .returned (.bool true) ∧ Below w.heap.size w w' := by
  go_enter Try.func9, Try.ntmps9
  go_wp2_with (go_at_call 12; refine (alive_any _).mono ?_; rintro e w1 ⟨rfl, hb⟩)
  go_ret
  exact ⟨rfl, hb⟩

theorem walk (w : World) {a : Option Addr} {n cap : Nat} (l : List Nat) (h : IsU64s w (.slice a n cap) l) (x : Int) (wx : (Lit.int .u64 x).wf = true) :
    Calls Try.prog 9 #[.slice a n cap, .int .u64 x] w fun e w' => e = .returned (.bool true) ∧ Below w.heap.size w w' := by
  obtain ⟨hu, hv, _, _⟩ := h
  have bx := u64_bounds wx
  obtain ⟨X, rfl⟩ := Int.eq_ofNat_of_zero_le bx.1
  obtain rfl := hu.len
  by_cases hl : l.length ≤ 300
  · exact walk_short _ a cap l hu hl hv X (by omega)
  · exact walk_long _ a _ cap (by omega) _

end Go.Proofs.Ytfkbgejapmhppaa.calcNoughts
