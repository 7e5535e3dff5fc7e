/- CalcParts: the walk. -/
import Derived.Test.YtfkbgejapmhppaaLawMath
namespace Go.Proofs.Ytfkbgejapmhppaa.calcParts
open Go.RowKit

theorem mul_ok {l : List Nat} (h : CalcMath.prodN l ≤ 1099511627776) : CalcMath.mulV l = CalcMath.prodN l ∧ CalcMath.mulE l = 0 := by
  unfold CalcMath.mulV CalcMath.mulE
  rw [if_pos h, if_pos h]; exact ⟨rfl, rfl⟩
theorem mul_out {l : List Nat} (h : 1099511627776 < CalcMath.prodN l) : CalcMath.mulV l = 0 ∧ CalcMath.mulE l = 3 := by
  unfold CalcMath.mulV CalcMath.mulE
  rw [if_neg (by omega), if_neg (by omega)]; exact ⟨rfl, rfl⟩

/-- The product, and that with one more 2: three ways. -/
theorem ways (l : List Nat) : ∃ V E V2 E2 : Nat, (CalcMath.mulV l = V ∧ CalcMath.mulE l = E) ∧ (CalcMath.mulV ([] ++ l ++ [2]) = V2 ∧ CalcMath.mulE ([] ++ l ++ [2]) = E2) ∧
    ((E = 0 ∧ E2 = 0 ∧ V2 = 2 * V ∧ V ≤ 549755813888) ∨ (E = 0 ∧ E2 = 3 ∧ V2 = 0 ∧ 549755813888 < V ∧ V ≤ 1099511627776) ∨ (E = 3 ∧ E2 = 3 ∧ V = 0)) := by
  have e2 : CalcMath.prodN ([] ++ l ++ [2]) = 2 * CalcMath.prodN l := by rw [List.nil_append, CalcMath.prodN_append]; simp [CalcMath.prodN]; omega
  by_cases h1 : CalcMath.prodN l ≤ 549755813888
  · refine ⟨_, _, _, _, mul_ok (by omega), mul_ok (by omega), .inl ⟨rfl, rfl, e2, h1⟩⟩
  · by_cases h2 : CalcMath.prodN l ≤ 1099511627776
    · exact ⟨_, _, _, _, mul_ok h2, mul_out (by omega), .inr (.inl ⟨rfl, rfl, rfl, by omega, h2⟩)⟩
    · exact ⟨_, _, _, _, mul_out (by omega), mul_out (by omega), .inr (.inr ⟨rfl, rfl, rfl⟩)⟩

theorem split (l : List Nat) : (∃ V E, CalcMath.mulV l = V ∧ CalcMath.mulE l = E ∧ ((E = 0 ∧ V = CalcMath.prodN l ∧ V ≤ 1099511627776) ∨ (E = 3 ∧ V = 0))) := by
  by_cases h : CalcMath.prodN l ≤ 1099511627776
  · exact ⟨_, _, (mul_ok h).1, (mul_ok h).2, .inl ⟨rfl, rfl, h⟩⟩
  · exact ⟨_, _, (mul_out (by omega)).1, (mul_out (by omega)).2, .inr ⟨rfl, rfl⟩⟩

theorem both (l : List Nat) (k : Nat) : CalcMath.mulV [CalcMath.prodN (l.take k), CalcMath.prodN (l.drop k)] = CalcMath.mulV l ∧ CalcMath.mulE [CalcMath.prodN (l.take k), CalcMath.prodN (l.drop k)] = CalcMath.mulE l := by
  have e : CalcMath.prodN [CalcMath.prodN (l.take k), CalcMath.prodN (l.drop k)] = CalcMath.prodN l := by
    rw [CalcMath.prodN_split l k]; simp [CalcMath.prodN]
  unfold CalcMath.mulV CalcMath.mulE
  rw [e]; exact ⟨rfl, rfl⟩

set_option maxHeartbeats 1000000 in
theorem walk_short (w : World) (a : Option Addr) (cap : Nat) (l : List Nat) (h : U64s w (.slice a l.length cap) l) (hn : 0 < l.length) (hl : l.length ≤ 100) (hcap : l.length ≤ cap) (hv : ∀ y ∈ l, y ≤ 18446744073709551615) (A K : Nat) (hA : A ≤ 255) (hK : A % (l.length + 1) = K) :
    Calls Try.prog 11 #[.slice a l.length cap, .int .u8 (A : Int)] w fun e w' => e = .returned (.bool true) ∧ Below w.heap.size w w' := by
  obtain ⟨i0, hi, hz0, hz1, hz2⟩ := info_parts info
  have hKl : K ≤ l.length := by have := Nat.mod_lt A (show 0 < l.length + 1 by omega); omega
  have hkk : ((A : Int) % ((l.length : Int) + 1)) = (K : Int) := by rw [← hK]; push_cast; rfl
  obtain ⟨sv1, run1, RT⟩ := slice_to (P := Try.prog) 29 Try.underlying29 sizeElem a l.length cap K (by omega)
  obtain ⟨sv2, run2, RD⟩ := slice_from (P := Try.prog) 29 Try.underlying29 sizeElem a l.length cap K hKl hcap
  have RT := Lib.hid RT
  have RD := Lib.hid RD
  obtain ⟨V, E, V2, E2, c1, c2, hw⟩ := ways l
  obtain ⟨VT, ET, t1, t2, ht⟩ := split (l.take K)
  obtain ⟨VD, ED, d1, d2, hd⟩ := split (l.drop K)
  have hboth := both l K
  rw [c1.1, c1.2] at hboth
  have CL := Lib.hid (mul_list l (by omega) hv c1)
  have CT := Lib.hid (mul_list (l.take K) (by simp; omega) (fun y hy => hv y (List.mem_of_mem_take hy)) ⟨t1, t2⟩)
  have CD := Lib.hid (mul_list (l.drop K) (by simp; omega) (fun y hy => hv y (List.mem_of_mem_drop hy)) ⟨d1, d2⟩)
  have C2 := Lib.hid (mul_list ([] ++ l ++ [2]) (by simp; omega) (by
    intro y hy
    simp only [List.nil_append, List.mem_append, List.mem_singleton] at hy
    rcases hy with hy | rfl
    · exact hv y hy
    · omega) c2)
  clear c1 c2 t1 t2 d1 d2 hv hK
  have ne0 : ((l.length : Int) == 0) = false := beq_eq_false_iff_ne.2 (by omega)
  by_cases hAB : ET = 0 ∧ ED = 0
  · obtain ⟨rfl, rfl⟩ := hAB
    have ht' : VT = CalcMath.prodN (l.take K) ∧ VT ≤ 1099511627776 := by omega
    have hd' : VD = CalcMath.prodN (l.drop K) ∧ VD ≤ 1099511627776 := by omega
    rw [← ht'.1, ← hd'.1] at hboth
    have bt := ht'.2
    have bd := hd'.2
    have CAB := Lib.hid (mul_list [VT, VD] (by simp) (by
      intro y hy
      simp only [List.mem_cons, List.not_mem_nil, or_false] at hy
      omega) hboth)
    clear hboth ht hd ht' hd'
    rcases hw with ⟨rfl, rfl, rfl, g1⟩ | ⟨rfl, rfl, rfl, g1, g2⟩ | ⟨rfl, rfl, rfl⟩
    all_goals
      go_enter Try.func11, Try.ntmps11
      go_wp2_with (go_at_call 12; refine (alive_any _).mono ?_; rintro e w1 ⟨rfl, hb⟩; have sz1 := hb.size)
      refine (CL.out _ _ (h.below (Nat.le_refl _) hb)).mono ?_; rintro e w2 ⟨rfl, rfl⟩
      go_wp2_with fail
      refine (CT.out _ _ (RT.out _ _ (h.below (Nat.le_refl _) hb) (by omega))).mono ?_; rintro e w2 ⟨rfl, rfl⟩
      go_wp2_with fail
      refine (CD.out _ _ (RD.out _ _ (h.below (Nat.le_refl _) hb))).mono ?_; rintro e w2 ⟨rfl, rfl⟩
      go_wp2_with fail
      refine (CAB.out _ _ (U64s.two_at _ _ _ _ _ (by simp))).mono ?_; rintro e w2 ⟨rfl, rfl⟩
      go_wp2_with (first | (at_builtin; refine wpList_append_u64 rfl _ _ 29 rfl w.heap.size 22 i0 Try.underlying29 hi hz0 hz1 hz2 _ _ _ [2] rfl rfl (o1.alloc _) (U64s.one_at w2 22 2 _ (by simp)) ?_ ?_ ?_; simp; omega; simp; omega; intro v2 w3 o2 g2 _ b2; have sz3 := b2.size; simp only [World.size_alloc] at sz3) | (at_builtin; refine wpList_append_u64 rfl _ _ 29 rfl w.heap.size 22 i0 Try.underlying29 hi hz0 hz1 hz2 _ _ [] l rfl rfl (Own.newAt _ _ _ _ (by simp; omega) (by simp)) ?_ ?_ ?_ ?_; exact h.below (Nat.le_refl _) ((hb.alloc sz1 _).alloc (by simp; omega) _); simp; omega; simp; omega; intro v1 w2 o1 g1 _ b1; have sz2 := b1.size; simp only [World.size_alloc] at sz2))
      refine (C2.out _ _ o2.reads).mono ?_; rintro e w4 ⟨rfl, rfl⟩
      go_wp2
      go_ret
      exact ⟨rfl, ((((((hb.alloc sz1 _).alloc (by simp; omega) _).trans b1).alloc (by omega) _).trans b2))⟩
  · clear hboth
    have hcase : (ET = 3 ∧ ED = 3) ∨ (ET = 3 ∧ ED = 0) ∨ (ET = 0 ∧ ED = 3) := by omega
    clear hAB ht hd
    rcases hcase with ⟨rfl, rfl⟩ | ⟨rfl, rfl⟩ | ⟨rfl, rfl⟩ <;> rcases hw with ⟨rfl, rfl, rfl, g1⟩ | ⟨rfl, rfl, rfl, g1, g2⟩ | ⟨rfl, rfl, rfl⟩
    all_goals
      go_enter Try.func11, Try.ntmps11
      go_wp2_with (go_at_call 12; refine (alive_any _).mono ?_; rintro e w1 ⟨rfl, hb⟩; have sz1 := hb.size)
      refine (CL.out _ _ (h.below (Nat.le_refl _) hb)).mono ?_; rintro e w2 ⟨rfl, rfl⟩
      go_wp2_with fail
      refine (CT.out _ _ (RT.out _ _ (h.below (Nat.le_refl _) hb) (by omega))).mono ?_; rintro e w2 ⟨rfl, rfl⟩
      go_wp2_with fail
      refine (CD.out _ _ (RD.out _ _ (h.below (Nat.le_refl _) hb))).mono ?_; rintro e w2 ⟨rfl, rfl⟩
      go_wp2_with (first | (at_builtin; refine wpList_append_u64 rfl _ _ 29 rfl w.heap.size 22 i0 Try.underlying29 hi hz0 hz1 hz2 _ _ _ [2] rfl rfl (o1.alloc _) (U64s.one_at w2 22 2 _ (by simp)) ?_ ?_ ?_; simp; omega; simp; omega; intro v2 w3 o2 g2 _ b2; have sz3 := b2.size; simp only [World.size_alloc] at sz3) | (at_builtin; refine wpList_append_u64 rfl _ _ 29 rfl w.heap.size 22 i0 Try.underlying29 hi hz0 hz1 hz2 _ _ [] l rfl rfl (Own.newAt _ _ _ _ sz1 (by simp)) ?_ ?_ ?_ ?_; exact h.below (Nat.le_refl _) (hb.alloc sz1 _); simp; omega; simp; omega; intro v1 w2 o1 g1 _ b1; have sz2 := b1.size; simp only [World.size_alloc] at sz2))
      refine (C2.out _ _ o2.reads).mono ?_; rintro e w4 ⟨rfl, rfl⟩
      go_wp2
      go_ret
      exact ⟨rfl, ((((hb.alloc sz1 _).trans b1).alloc (by omega) _).trans b2)⟩

theorem walk_out (w : World) (a : Option Addr) (n cap : Nat) (hl : 100 < n ∨ n = 0) (A : Int) :
    Calls Try.prog 11 #[.slice a n cap, .int .u8 A] w fun e w' => e = .returned (.bool true) ∧ Below w.heap.size w w' := by
  rcases hl with hl | rfl
  all_goals
    go_enter Try.func11, Try.ntmps11
    go_wp2_with (go_at_call 12; refine (alive_any _).mono ?_; rintro e w1 ⟨rfl, hb⟩)
    go_ret
    exact ⟨rfl, hb⟩

theorem walk (w : World) {a : Option Addr} {n cap : Nat} (l : List Nat) (h : IsU64s w (.slice a n cap) l) (x : Int) (wx : (Lit.int .u8 x).wf = true) :
    Calls Try.prog 11 #[.slice a n cap, .int .u8 x] w fun e w' => e = .returned (.bool true) ∧ Below w.heap.size w w' := by
  obtain ⟨hu, hv, _, hc⟩ := h
  have bx : 0 ≤ x ∧ x ≤ 255 := by simp [Lit.wf, IntKind.min, IntKind.max, IntKind.signed, IntKind.bits] at wx; omega
  obtain ⟨X, rfl⟩ := Int.eq_ofNat_of_zero_le bx.1
  obtain rfl := hu.len
  by_cases hl : l.length ≤ 100 ∧ 0 < l.length
  · exact walk_short _ a cap l hu hl.2 hl.1 (hc _ _ _ rfl).1 hv X _ (by omega) rfl
  · exact walk_out _ a _ cap (by omega) _

end Go.Proofs.Ytfkbgejapmhppaa.calcParts
