/- Plain facts on multiples, for the laws of layer 1, and the contracts of Up and Down in the form that the laws' walks meet. -/
import Derived.Test.YtfkbgejapmhppaaAlive
namespace Go.Proofs.Ytfkbgejapmhppaa
open Go.RowKit
namespace CalcMath

theorem upR_zero (a : Nat) (_h : 0 < a) : upR 0 a = 0 := by
  unfold upR
  rw [Nat.div_eq_of_lt (by omega)]; simp
theorem upR_le (y k : Nat) (hk : k ≤ 40) (hy : y ≤ 1099511627776) : upR y (2 ^ k) ≤ 1099511627776 := by
  have hp : 0 < 2 ^ k := Nat.two_pow_pos k
  have e : 1099511627776 = 2 ^ (40 - k) * 2 ^ k := by rw [← Nat.pow_add, Nat.sub_add_cancel hk]
  unfold upR
  have h : (y + 2 ^ k - 1) / 2 ^ k ≤ 2 ^ (40 - k) := by
    apply Nat.le_of_lt_succ
    rw [Nat.div_lt_iff_lt_mul hp, Nat.succ_mul]
    omega
  calc (y + 2 ^ k - 1) / 2 ^ k * 2 ^ k ≤ 2 ^ (40 - k) * 2 ^ k := Nat.mul_le_mul_right _ h
    _ = 1099511627776 := e.symm
theorem upR_gt (y a : Nat) (ha : 1099511627776 < a) (hy : 0 < y) : 1099511627776 < upR y a := by
  unfold upR
  have h : 1 ≤ (y + a - 1) / a := (Nat.le_div_iff_mul_le (by omega)).2 (by omega)
  have := Nat.mul_le_mul_right a h
  omega
theorem downR_le (y a : Nat) : downR y a ≤ y := Nat.div_mul_le_self y a

theorem p2_is (k : Nat) : isP2 (2 ^ k) = true := (isP2_iff _).2 ⟨k, rfl⟩
theorem up_ok (y a : Nat) (hp : isP2 a = true) (h : upR y a ≤ 1099511627776) : upV y a = upR y a ∧ upE y a = 0 := by
  unfold upV upE
  rw [if_pos ⟨hp, h⟩, if_pos hp, if_pos h]
  exact ⟨rfl, rfl⟩
theorem up_out (y a : Nat) (hp : isP2 a = true) (h : 1099511627776 < upR y a) : upV y a = 0 ∧ upE y a = 3 := by
  unfold upV upE
  rw [if_neg (fun h' => by omega), if_pos hp, if_neg (by omega)]
  exact ⟨rfl, rfl⟩
theorem up_arg (y a : Nat) (hp : ¬ isP2 a = true) : upV y a = 0 ∧ upE y a = 2 := by
  unfold upV upE
  rw [if_neg (fun h' => hp h'.1), if_neg hp]
  exact ⟨rfl, rfl⟩
theorem down_ok (y a : Nat) (hp : isP2 a = true) (h : y ≤ 1099511627776) : downV y a = downR y a ∧ downE y a = 0 := by
  have := downR_le y a
  unfold downV downE
  rw [if_pos ⟨hp, by omega⟩, if_pos hp, if_pos (by omega)]
  exact ⟨rfl, rfl⟩
theorem down_arg (y a : Nat) (hp : ¬ isP2 a = true) : downV y a = 0 ∧ downE y a = 2 := by
  unfold downV downE
  rw [if_neg (fun h' => hp h'.1), if_neg hp]
  exact ⟨rfl, rfl⟩

theorem up_facts (y a : Nat) (ha : 0 < a) : upR y a % a = 0 ∧ y ≤ upR y a ∧ upR y a < y + a ∧ (y % a = 0 → upR y a = y) := by
  unfold upR
  have h1 := Nat.div_add_mod (y + a - 1) a
  have h2 := Nat.mod_lt (y + a - 1) ha
  rw [Nat.mul_comm] at h1
  refine ⟨Nat.mul_mod_left _ _, by omega, by omega, fun h => ?_⟩
  have h3 := Nat.div_add_mod y a
  rw [h, Nat.mul_comm] at h3
  have h4 : (y + a - 1) / a = y / a := by
    have e : y + a - 1 = (a - 1) + a * (y / a) := by rw [Nat.mul_comm]; omega
    rw [e, Nat.add_mul_div_left _ _ ha, Nat.div_eq_of_lt (by omega)]
    omega
  rw [h4]; omega
theorem down_facts (y a : Nat) (ha : 0 < a) : downR y a % a = 0 ∧ downR y a ≤ y ∧ y < downR y a + a ∧ (y % a = 0 → downR y a = y) := by
  unfold downR
  have h1 := Nat.div_add_mod y a
  have h2 := Nat.mod_lt y ha
  rw [Nat.mul_comm] at h1
  exact ⟨Nat.mul_mod_left _ _, by omega, by omega, fun h => by omega⟩
/-- Two multiples of one number that are less than it apart are one. -/
theorem mult_one {m n P : Nat} (hm : m % P = 0) (hn : n % P = 0) (h1 : m < n + P) (h2 : n < m + P) : m = n := by
  obtain ⟨c, rfl⟩ := Nat.dvd_of_mod_eq_zero hm
  obtain ⟨d, rfl⟩ := Nat.dvd_of_mod_eq_zero hn
  have e1 : P * c < P * (d + 1) := by rw [Nat.mul_succ]; exact h1
  have e2 : P * d < P * (c + 1) := by rw [Nat.mul_succ]; exact h2
  have l1 := Nat.lt_of_mul_lt_mul_left e1
  have l2 := Nat.lt_of_mul_lt_mul_left e2
  rw [show c = d by omega]
/-- A multiple less than a step above another one's neighbour is not above it. -/
theorem mult_le {m n P : Nat} (hm : m % P = 0) (hn : n % P = 0) (h1 : m < n + P) : m ≤ n := by
  obtain ⟨c, rfl⟩ := Nat.dvd_of_mod_eq_zero hm
  obtain ⟨d, rfl⟩ := Nat.dvd_of_mod_eq_zero hn
  have e1 : P * c < P * (d + 1) := by rw [Nat.mul_succ]; exact h1
  have l1 := Nat.lt_of_mul_lt_mul_left e1
  exact Nat.mul_le_mul_left P (by omega)
theorem chain_up (X A B : Nat) (hA : 0 < A) (hB : 0 < B) (hd : A ∣ B) : upR (upR X A) B = upR X B := by
  obtain ⟨a1, a2, a3, _⟩ := up_facts X A hA
  obtain ⟨b1, b2, b3, _⟩ := up_facts X B hB
  obtain ⟨c1, c2, c3, _⟩ := up_facts (upR X A) B hB
  have hr : upR X B % A = 0 := Nat.mod_eq_zero_of_dvd (Nat.dvd_trans hd (Nat.dvd_of_mod_eq_zero b1))
  have le := mult_le a1 hr (by omega)
  exact mult_one c1 b1 (by omega) (by omega)
theorem chain_down (X A B : Nat) (hA : 0 < A) (hB : 0 < B) (hd : A ∣ B) : downR (downR X A) B = downR X B := by
  obtain ⟨a1, a2, a3, _⟩ := down_facts X A hA
  obtain ⟨b1, b2, b3, _⟩ := down_facts X B hB
  obtain ⟨c1, c2, c3, _⟩ := down_facts (downR X A) B hB
  have hr : downR X B % A = 0 := Nat.mod_eq_zero_of_dvd (Nat.dvd_trans hd (Nat.dvd_of_mod_eq_zero b1))
  have le := mult_le hr a1 (by omega)
  exact mult_one c1 b1 (by omega) (by omega)
end CalcMath

/-- Up and Down at numbers that the walk has reckoned: 'x = X', 'a = A'. -/
theorem up_at (X A : Nat) {V E : Nat} (hX : X ≤ 18446744073709551615) (hA : A ≤ 18446744073709551615) (h : CalcMath.upV X A = V ∧ CalcMath.upE X A = E) (x a : Int) (hx : x = X) (ha : a = A) (w : World) :
    Calls Try.prog 13 #[.int .u64 x, .int .u64 a] w fun e w' => e = .returned (.tuple #[.int .u64 (V : Nat), .int .i64 (E : Nat)]) ∧ w = w' := by
  subst hx ha
  have := up_any X A hX hA w
  rw [h.1, h.2] at this
  exact this
theorem down_at (X A : Nat) {V E : Nat} (hX : X ≤ 18446744073709551615) (hA : A ≤ 18446744073709551615) (h : CalcMath.downV X A = V ∧ CalcMath.downE X A = E) (x a : Int) (hx : x = X) (ha : a = A) (w : World) :
    Calls Try.prog 15 #[.int .u64 x, .int .u64 a] w fun e w' => e = .returned (.tuple #[.int .u64 (V : Nat), .int .i64 (E : Nat)]) ∧ w = w' := by
  subst hx ha
  have := down_any X A hX hA w
  rw [h.1, h.2] at this
  exact this

theorem info : (Try.prog.info? 22).map (fun i => (i.zero, i.size, i.bytes)) = some (some (.int .u64 0), 1, 8) := by kernel_rfl
theorem sizeElem (w : World) : (sizeOf (Try.prog.elem 29)).run Try.prog w = .ok 1 w := by kernel_rfl

/-- Mul and Sum of what reads as one given list, their answers reckoned. -/
theorem mul_list (l : List Nat) (hl : l.length ≤ 9223372036854775807) (hv : ∀ x ∈ l, x ≤ 18446744073709551615) {V E : Nat} (h : CalcMath.mulV l = V ∧ CalcMath.mulE l = E) (w : World) (v : Value) (hu : U64s w v l) :
    Calls Try.prog 21 #[v] w fun e w' => e = .returned (.tuple #[.int .u64 (V : Nat), .int .i64 (E : Nat)]) ∧ w = w' := by
  have := mul_any w v l hu hl (CalcMath.getD_le l hv)
  rwa [h.1, h.2] at this
theorem sum_list (l : List Nat) (hl : l.length ≤ 9223372036854775807) (hv : ∀ x ∈ l, x ≤ 18446744073709551615) {V E : Nat} (h : CalcMath.sumV l = V ∧ CalcMath.sumE l = E) (w : World) (v : Value) (hu : U64s w v l) :
    Calls Try.prog 19 #[v] w fun e w' => e = .returned (.tuple #[.int .u64 (V : Nat), .int .i64 (E : Nat)]) ∧ w = w' := by
  have := sum_any w v l hu hl (CalcMath.getD_le l hv)
  rwa [h.1, h.2] at this

end Go.Proofs.Ytfkbgejapmhppaa
