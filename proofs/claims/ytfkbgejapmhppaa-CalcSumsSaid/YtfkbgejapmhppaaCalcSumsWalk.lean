/- CalcSums: the walk. -/
import Derived.Test.YtfkbgejapmhppaaRef5
namespace Go.Proofs.Ytfkbgejapmhppaa.calcSums
open Go.RowKit

set_option maxHeartbeats 400000 in
theorem walk_short (w : World) (a : Option Addr) (cap : Nat) (l : List Nat) (h : U64s w (.slice a l.length cap) l) (hl : l.length ≤ 300) (hv : ∀ y ∈ l, y ≤ 18446744073709551615) :
    Calls Try.prog 4 #[.slice a l.length cap] w fun e w' => e = .returned (.bool true) ∧ Below w.heap.size w w' := by
  have hd := CalcMath.getD_le l hv
  have c1 := fun w v hu => sum_any w v l hu (by omega) hd
  have c2 := fun w v hu => rsum_any w v l hu hl hd
  have c3 := fun w v hu => mul_any w v l hu (by omega) hd
  have c4 := fun w v hu => rmul_any w v l hu hl hd
  have c5 := fun w v hu => most_any w v l hu (by omega)
  have c6 := fun w v hu => least_any w v l hu (by omega)
  have c7 := fun w v hu => rends_any w v l hu hl
  generalize CalcMath.sumV l = x1 at *
  generalize CalcMath.sumE l = x2 at *
  generalize CalcMath.mulV l = x3 at *
  generalize CalcMath.mulE l = x4 at *
  generalize CalcMath.mostN l = x5 at *
  generalize CalcMath.leastN l = x6 at *
  generalize CalcMath.endE l = x7 at *
  have H1 := Lib.hid c1; have H2 := Lib.hid c2; have H3 := Lib.hid c3; have H4 := Lib.hid c4; have H5 := Lib.hid c5; have H6 := Lib.hid c6; have H7 := Lib.hid c7
  clear c1 c2 c3 c4 c5 c6 c7 hd hv
  go_enter Try.func4, Try.ntmps4
  go_wp2_with (go_at_call 12; refine (alive_any _).mono ?_; rintro e w1 ⟨rfl, b1⟩)
  refine (H1.out _ _ (h.below (Nat.le_refl _) b1)).mono ?_; rintro e w2 ⟨rfl, rfl⟩
  go_wp2_with fail
  refine (H2.out _ _ (h.below (Nat.le_refl _) b1)).mono ?_; rintro e w2 ⟨rfl, b2⟩
  have bb2 := b1.trans (b2.mono b1.size)
  go_wp2_with fail
  refine (H3.out _ _ (h.below (Nat.le_refl _) bb2)).mono ?_; rintro e w3 ⟨rfl, rfl⟩
  go_wp2_with fail
  refine (H4.out _ _ (h.below (Nat.le_refl _) bb2)).mono ?_; rintro e w3 ⟨rfl, b3⟩
  have bb3 := bb2.trans (b3.mono bb2.size)
  go_wp2_with fail
  refine (H5.out _ _ (h.below (Nat.le_refl _) bb3)).mono ?_; rintro e w4 ⟨rfl, rfl⟩
  go_wp2_with fail
  refine (H6.out _ _ (h.below (Nat.le_refl _) bb3)).mono ?_; rintro e w4 ⟨rfl, rfl⟩
  go_wp2_with fail
  refine (H7.out _ _ (h.below (Nat.le_refl _) bb3)).mono ?_; rintro e w4 ⟨rfl, b4⟩
  have bb4 := bb3.trans (b4.mono bb3.size)
  go_wp2
  go_ret
  exact ⟨rfl, bb4⟩

theorem walk_out (w : World) (a : Option Addr) (n cap : Nat) (hl : 300 < n) :
    Calls Try.prog 4 #[.slice a n cap] w fun e w' => e = .returned (.bool true) ∧ Below w.heap.size w w' := by
  go_enter Try.func4, Try.ntmps4
  go_wp2_with (go_at_call 12; refine (alive_any _).mono ?_; rintro e w1 ⟨rfl, hb⟩)
  go_ret
  exact ⟨rfl, hb⟩

theorem walk (w : World) {a : Option Addr} {n cap : Nat} (l : List Nat) (h : IsU64s w (.slice a n cap) l) :
    Calls Try.prog 4 #[.slice a n cap] w fun e w' => e = .returned (.bool true) ∧ Below w.heap.size w w' := by
  obtain ⟨hu, hv, _, _⟩ := h
  obtain rfl := hu.len
  by_cases hl : l.length ≤ 300
  · exact walk_short _ a cap l hu hl hv
  · exact walk_out _ a _ cap (by omega)

end Go.Proofs.Ytfkbgejapmhppaa.calcSums
