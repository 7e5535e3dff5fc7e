/- CalcOrders: the walk. -/
import Derived.Test.YtfkbgejapmhppaaLawMath
import Derived.Deep.RegionLaw
namespace Go.Proofs.Ytfkbgejapmhppaa.calcOrders
open Go.RowKit

theorem turned_mul (l : List Nat) (k : Nat) : CalcMath.mulV ([] ++ ([] ++ l.drop k ++ l.take k) ++ [1, 1]) = CalcMath.mulV l ∧ CalcMath.mulE ([] ++ ([] ++ l.drop k ++ l.take k) ++ [1, 1]) = CalcMath.mulE l := by
  have e : CalcMath.prodN ([] ++ ([] ++ l.drop k ++ l.take k) ++ [1, 1]) = CalcMath.prodN l := by
    rw [CalcMath.prodN_split l k]
    simp [CalcMath.prodN_append, CalcMath.prodN, Nat.mul_comm]
  unfold CalcMath.mulV CalcMath.mulE
  rw [e]; exact ⟨rfl, rfl⟩

/-- The sums of a list, of it turned, and of its two parts: five ways. -/
theorem sums (l : List Nat) (k : Nat) : ∃ SV SE TV TE DV DE : Nat, (CalcMath.sumV l = SV ∧ CalcMath.sumE l = SE) ∧ (CalcMath.sumV ([] ++ l.drop k ++ l.take k ++ [0, 0]) = SV ∧ CalcMath.sumE ([] ++ l.drop k ++ l.take k ++ [0, 0]) = SE) ∧
    (CalcMath.sumV (l.take k) = TV ∧ CalcMath.sumE (l.take k) = TE) ∧ (CalcMath.sumV (l.drop k) = DV ∧ CalcMath.sumE (l.drop k) = DE) ∧
    ((SE = 0 ∧ TE = 0 ∧ DE = 0 ∧ SV = TV + DV ∧ TV + DV ≤ 1099511627776) ∨ (SE = 3 ∧ TE = 0 ∧ DE = 0 ∧ 1099511627776 < TV + DV ∧ TV ≤ 1099511627776 ∧ DV ≤ 1099511627776) ∨ (SE = 3 ∧ TE = 3 ∧ DE = 0) ∨ (SE = 3 ∧ TE = 0 ∧ DE = 3) ∨ (SE = 3 ∧ TE = 3 ∧ DE = 3)) := by
  have e0 : CalcMath.sumN ([] ++ l.drop k ++ l.take k ++ [0, 0]) = CalcMath.sumN l := by
    rw [CalcMath.sumN_split l k]
    simp [CalcMath.sumN_append, CalcMath.sumN]
    omega
  have es := CalcMath.sumN_split l k
  unfold CalcMath.sumV CalcMath.sumE
  rw [e0]
  by_cases hs : CalcMath.sumN l ≤ 1099511627776
  · rw [if_pos hs, if_pos hs, if_pos (by omega), if_pos (by omega), if_pos (by omega), if_pos (by omega)]
    exact ⟨_, _, _, _, _, _, ⟨rfl, rfl⟩, ⟨rfl, rfl⟩, ⟨rfl, rfl⟩, ⟨rfl, rfl⟩, .inl ⟨rfl, rfl, rfl, es, by omega⟩⟩
  · rw [if_neg hs, if_neg hs]
    by_cases ht : CalcMath.sumN (l.take k) ≤ 1099511627776 <;> by_cases hd : CalcMath.sumN (l.drop k) ≤ 1099511627776
    · rw [if_pos ht, if_pos ht, if_pos hd, if_pos hd]
      exact ⟨_, _, _, _, _, _, ⟨rfl, rfl⟩, ⟨rfl, rfl⟩, ⟨rfl, rfl⟩, ⟨rfl, rfl⟩, .inr (.inl ⟨rfl, rfl, rfl, by omega, ht, hd⟩)⟩
    · rw [if_pos ht, if_pos ht, if_neg hd, if_neg hd]
      exact ⟨_, _, _, _, _, _, ⟨rfl, rfl⟩, ⟨rfl, rfl⟩, ⟨rfl, rfl⟩, ⟨rfl, rfl⟩, .inr (.inr (.inr (.inl ⟨rfl, rfl, rfl⟩)))⟩
    · rw [if_neg ht, if_neg ht, if_pos hd, if_pos hd]
      exact ⟨_, _, _, _, _, _, ⟨rfl, rfl⟩, ⟨rfl, rfl⟩, ⟨rfl, rfl⟩, ⟨rfl, rfl⟩, .inr (.inr (.inl ⟨rfl, rfl, rfl⟩))⟩
    · rw [if_neg ht, if_neg ht, if_neg hd, if_neg hd]
      exact ⟨_, _, _, _, _, _, ⟨rfl, rfl⟩, ⟨rfl, rfl⟩, ⟨rfl, rfl⟩, ⟨rfl, rfl⟩, .inr (.inr (.inr (.inr ⟨rfl, rfl, rfl⟩)))⟩

set_option maxHeartbeats 1000000 in
theorem walk_short (w : World) (a : Option Addr) (cap : Nat) (l : List Nat) (h : U64s w (.slice a l.length cap) l) (hl : l.length ≤ 300) (hcap : l.length ≤ cap) (hv : ∀ y ∈ l, y ≤ 18446744073709551615) (A K : Nat) (hA : A ≤ 255) (hK : A % (l.length + 1) = K) :
    Calls Try.prog 7 #[.slice a l.length cap, .int .u8 (A : Int)] w fun e w' => e = .returned (.bool true) ∧ Below w.heap.size w w' := by
  obtain ⟨i0, hi, hz0, hz1, hz2⟩ := info_parts info
  have hKl : K ≤ l.length := by have := Nat.mod_lt A (show 0 < l.length + 1 by omega); omega
  have hkk : ((A : Int) % ((l.length : Int) + 1)) = (K : Int) := by rw [← hK]; push_cast; rfl
  obtain ⟨sv1, run1, RT⟩ := slice_to (P := Try.prog) 29 Try.underlying29 sizeElem a l.length cap K (by omega)
  obtain ⟨sv2, run2, RD⟩ := slice_from (P := Try.prog) 29 Try.underlying29 sizeElem a l.length cap K hKl hcap
  have R1 := Lib.hid RT
  have R2 := Lib.hid RD
  have lenT : (l.take K).length ≤ 300 := by simp; omega
  have lenD : (l.drop K).length ≤ 300 := by simp; omega
  have lenM : ([] ++ l.drop K ++ l.take K).length ≤ 300 := by simp; omega
  have hvT : ∀ y ∈ l.take K, y ≤ 18446744073709551615 := fun y hy => hv y (List.mem_of_mem_take hy)
  have hvD : ∀ y ∈ l.drop K, y ≤ 18446744073709551615 := fun y hy => hv y (List.mem_of_mem_drop hy)
  have hvM : ∀ y ∈ [] ++ l.drop K ++ l.take K, y ≤ 18446744073709551615 := by
    intro y hy
    simp only [List.nil_append, List.mem_append] at hy
    rcases hy with hy | hy
    · exact hvD y hy
    · exact hvT y hy
  have hv0 : ∀ y ∈ [] ++ l.drop K ++ l.take K ++ [0, 0], y ≤ 18446744073709551615 := by
    intro y hy
    rw [List.mem_append] at hy
    rcases hy with hy | hy
    · exact hvM y hy
    · simp at hy; omega
  have hv1 : ∀ y ∈ [] ++ ([] ++ l.drop K ++ l.take K) ++ [1, 1], y ≤ 18446744073709551615 := by
    intro y hy
    rw [List.mem_append] at hy
    rcases hy with hy | hy
    · exact hvM y hy
    · simp at hy; omega
  obtain ⟨MV, ME, m1, m2⟩ : ∃ V E, CalcMath.mulV l = V ∧ CalcMath.mulE l = E := ⟨_, _, rfl, rfl⟩
  have CM := Lib.hid (mul_list l (by omega) hv ⟨m1, m2⟩)
  have CM1 := Lib.hid (mul_list ([] ++ ([] ++ l.drop K ++ l.take K) ++ [1, 1]) (by simp; omega) hv1 ⟨(turned_mul l K).1.trans m1, (turned_mul l K).2.trans m2⟩)
  obtain ⟨SV, SE, TV, TE, DV, DE, s1, s0, st, sd, hway⟩ := sums l K
  have CS := Lib.hid (sum_list l (by omega) hv s1)
  have CS0 := Lib.hid (sum_list ([] ++ l.drop K ++ l.take K ++ [0, 0]) (by simp; omega) hv0 s0)
  have CT := Lib.hid (sum_list (l.take K) (by omega) hvT st)
  have CD := Lib.hid (sum_list (l.drop K) (by omega) hvD sd)
  clear RT RD hK m1 m2 s1 s0 st sd hv hvT hvD hvM hv0 hv1
  rcases hway with ⟨rfl, rfl, rfl, rfl, g1⟩ | ⟨rfl, rfl, rfl, g1, g2, g3⟩ | ⟨rfl, rfl, rfl⟩ | ⟨rfl, rfl, rfl⟩ | ⟨rfl, rfl, rfl⟩
  all_goals
    go_enter Try.func7, Try.ntmps7
    go_wp2_with (go_at_call 12; refine (alive_any _).mono ?_; rintro e w1 ⟨rfl, hb⟩; have sz1 := hb.size)
    go_region_law (first | (refine step_append_u64 rfl (.tmp 30) (.tmp 33) 29 rfl w.heap.size 22 i0 Try.underlying29 hi hz0 hz1 hz2 _ _ _ _ rfl rfl (Own.new w1 _ _ sz1).drew (R2.out _ _ (h.below (Nat.le_refl _) ((hb.alloc sz1 _).drew))) ?_ ?_ ?_; simp; omega; simp; omega; intro v1 w2 o1 g1 _ b1; have sz2 : w1.heap.size + 1 ≤ w2.heap.size := by simpa using b1.size) | (refine step_append_u64 rfl (.tmp 34) (.tmp 37) 29 rfl w.heap.size 22 i0 Try.underlying29 hi hz0 hz1 hz2 _ _ _ _ rfl rfl o1 (R1.out _ _ (h.below (Nat.le_refl _) (((hb.alloc sz1 _).drew).trans b1)) (by omega)) ?_ ?_ ?_; simp; omega; omega; intro v2 w3 o2 g2 _ b2; have sz3 := b2.size))
    have bw3 := ((((hb.alloc sz1 (.cells #[] 22)).drew).trans b1).trans b2)
    have sw3 := bw3.size
    go_wp2_with fail
    refine (CS.out _ _ (h.below (Nat.le_refl _) bw3)).mono ?_; rintro e w4 ⟨rfl, rfl⟩
    go_wp2_with (at_builtin; refine wpList_append_u64 rfl _ _ 29 rfl w.heap.size 22 i0 Try.underlying29 hi hz0 hz1 hz2 _ _ _ [0, 0] rfl rfl (o2.alloc _) (U64s.two_at w3 22 0 0 _ (by simp)) ?_ ?_ ?_; simp; omega; simp; omega; intro v3 w4 o3 g3 k3 b3; have sz4 : w3.heap.size + 1 ≤ w4.heap.size := by simpa using b3.size)
    have bw4 := (bw3.alloc sw3 (.cells #[.int .u64 0, .int .u64 0] 22)).trans b3
    have sw4 := bw4.size
    refine (CS0.out _ _ o3.reads).mono ?_; rintro e w5 ⟨rfl, rfl⟩
    go_wp2_with fail
    refine (CM.out _ _ (h.below (Nat.le_refl _) bw4)).mono ?_; rintro e w5 ⟨rfl, rfl⟩
    go_wp2_with (first | (at_builtin; refine wpList_append_u64 rfl _ _ 29 rfl w.heap.size 22 i0 Try.underlying29 hi hz0 hz1 hz2 _ _ _ [1, 1] rfl rfl (o4.alloc _) (U64s.two_at w5 22 1 1 _ (by simp)) ?_ ?_ ?_; simp; omega; simp; omega; intro v5 w6 o5 g5 k5 b5) | (at_builtin; refine wpList_append_u64 rfl _ _ 29 rfl w.heap.size 22 i0 Try.underlying29 hi hz0 hz1 hz2 _ _ [] _ rfl rfl (Own.newAt _ _ _ _ sw4 (by simp)) (k3.below (Nat.le_refl _) ((Below.refl _ _).alloc (Nat.le_refl _) _)) ?_ ?_ ?_; simp; omega; simp; omega; intro v4 w5 o4 g4 k4 b4; have sz5 : w4.heap.size + 1 ≤ w5.heap.size := by simpa using b4.size))
    have bw5 := (bw4.alloc sw4 (.cells #[] 22)).trans b4
    have bw6 := (bw5.alloc bw5.size (.cells #[.int .u64 1, .int .u64 1] 22)).trans b5
    refine (CM1.out _ _ o5.reads).mono ?_; rintro e w7 ⟨rfl, rfl⟩
    go_wp2_with fail
    refine (CT.out _ _ (R1.out _ _ (h.below (Nat.le_refl _) bw6) (by omega))).mono ?_; rintro e w7 ⟨rfl, rfl⟩
    go_wp2_with fail
    refine (CD.out _ _ (R2.out _ _ (h.below (Nat.le_refl _) bw6))).mono ?_; rintro e w7 ⟨rfl, rfl⟩
    go_wp2
    go_ret
    first | exact ⟨rfl, bw6⟩ | exact ⟨ret_bool (decide_eq_true (by omega)), bw6⟩

theorem walk_out (w : World) (a : Option Addr) (n cap : Nat) (hl : 300 < n) (A : Int) :
    Calls Try.prog 7 #[.slice a n cap, .int .u8 A] w fun e w' => e = .returned (.bool true) ∧ Below w.heap.size w w' := by
  go_enter Try.func7, Try.ntmps7
  go_wp2_with (go_at_call 12; refine (alive_any _).mono ?_; rintro e w1 ⟨rfl, hb⟩)
  go_ret
  exact ⟨rfl, hb⟩

theorem walk (w : World) {a : Option Addr} {n cap : Nat} (l : List Nat) (h : IsU64s w (.slice a n cap) l) (x : Int) (wx : (Lit.int .u8 x).wf = true) :
    Calls Try.prog 7 #[.slice a n cap, .int .u8 x] w fun e w' => e = .returned (.bool true) ∧ Below w.heap.size w w' := by
  obtain ⟨hu, hv, _, hc⟩ := h
  have bx : 0 ≤ x ∧ x ≤ 255 := by simp [Lit.wf, IntKind.min, IntKind.max, IntKind.signed, IntKind.bits] at wx; omega
  obtain ⟨X, rfl⟩ := Int.eq_ofNat_of_zero_le bx.1
  obtain rfl := hu.len
  by_cases hl : l.length ≤ 300
  · exact walk_short _ a cap l hu hl (hc _ _ _ rfl).1 hv X _ (by omega) rfl
  · exact walk_out _ a _ cap (by omega) _

end Go.Proofs.Ytfkbgejapmhppaa.calcOrders
