/- Plain arithmetic for layer 1 (calc): the bit count of math/bits, powers of two, multiples. No program is named here. -/
namespace Go.Proofs.Ytclmdjkihijciaa.CalcMath

/-! ### The count of one bits -/
def pop : Nat → Nat → Nat
  | 0, _ => 0
  | n + 1, x => x % 2 + pop n (x / 2)

theorem pop_zero : ∀ n, pop n 0 = 0
  | 0 => rfl
  | n + 1 => by simp [pop, pop_zero n]

theorem pop_eq_zero : ∀ (n x : Nat), x < 2 ^ n → (pop n x = 0 ↔ x = 0)
  | 0, x, h => by simp at h; subst h; simp [pop]
  | n + 1, x, h => by
    have ih := pop_eq_zero n (x / 2) (by rw [Nat.pow_succ] at h; omega)
    simp only [pop]
    omega

theorem pop_eq_one : ∀ (n x : Nat), x < 2 ^ n → (pop n x = 1 ↔ ∃ k, k < n ∧ x = 2 ^ k)
  | 0, x, h => by
    simp at h; subst h
    constructor
    · intro h; simp [pop] at h
    · rintro ⟨k, hk, _⟩; omega
  | n + 1, x, h => by
    have hx : x / 2 < 2 ^ n := by rw [Nat.pow_succ] at h; omega
    have ih := pop_eq_one n (x / 2) hx
    have iz := pop_eq_zero n (x / 2) hx
    simp only [pop]
    constructor
    · intro h1
      by_cases ho : x % 2 = 1
      · have : x / 2 = 0 := iz.1 (by omega)
        exact ⟨0, by omega, by omega⟩
      · obtain ⟨k, hk, e⟩ := ih.1 (by omega)
        exact ⟨k + 1, by omega, by rw [Nat.pow_succ]; omega⟩
    · rintro ⟨k, hk, e⟩
      cases k with
      | zero =>
        have e' : x = 1 := by simpa using e
        subst e'
        have := iz.2 (by decide)
        simp at this ⊢
        exact this
      | succ k =>
        rw [Nat.pow_succ] at e
        have := ih.2 ⟨k, by omega, by omega⟩
        omega

theorem pop_add : ∀ (m n x : Nat), pop (m + n) x = pop m (x % 2 ^ m) + pop n (x / 2 ^ m)
  | 0, n, x => by simp [pop]
  | m + 1, n, x => by
    have e : m + 1 + n = (m + n) + 1 := by omega
    rw [e]
    simp only [pop]
    rw [pop_add m n (x / 2)]
    have e1 : x % 2 ^ (m + 1) % 2 = x % 2 := Nat.mod_mod_of_dvd x ⟨2 ^ m, by rw [Nat.pow_succ, Nat.mul_comm]⟩
    have e2 : x % 2 ^ (m + 1) / 2 = x / 2 % 2 ^ m := by
      rw [Nat.pow_succ, Nat.mul_comm, Nat.mod_mul_right_div_self]
    have e3 : x / 2 ^ (m + 1) = x / 2 / 2 ^ m := by
      rw [Nat.pow_succ, Nat.mul_comm, Nat.div_div_eq_div_mul]
    rw [e1, e2, e3]
    omega

/-- A mask of n bytes, each of them c. -/
def rep (c : Nat) : Nat → Nat
  | 0 => 0
  | n + 1 => c + 256 * rep c n

theorem land_split (a c h d : Nat) (ha : a < 256) (hc : c < 256) : (a + 256 * h) &&& (c + 256 * d) = (a &&& c) + 256 * (h &&& d) := by
  have key : ∀ (u v : Nat), u < 256 → u + 256 * v = 2 ^ 8 * v + u := by intro u v _; omega
  have hac : (a &&& c) < 256 := Nat.and_lt_two_pow a (n := 8) (by omega)
  apply Nat.eq_of_testBit_eq
  intro i
  rw [key _ _ ha, key _ _ hc, key _ _ hac, Nat.testBit_and, Nat.testBit_two_pow_mul_add _ (by omega), Nat.testBit_two_pow_mul_add _ (by omega), Nat.testBit_two_pow_mul_add _ (by omega)]
  split <;> simp [Nat.testBit_and]

def s1 (n x : Nat) : Nat := (x / 2 &&& rep 85 n) + (x &&& rep 85 n)
def s2 (n x : Nat) : Nat := (x / 4 &&& rep 51 n) + (x &&& rep 51 n)
def s3 (n x : Nat) : Nat := (x / 16 + x) &&& rep 15 n

def t1 (a : Nat) : Nat := (a / 2 &&& 85) + (a &&& 85)
def t2 (a : Nat) : Nat := (a / 4 &&& 51) + (a &&& 51)
def t3 (a : Nat) : Nat := (a / 16 + a) &&& 15

theorem mask1 : ∀ a : Fin 256, ∀ r : Fin 2, (a.val / 2 + 128 * r.val) &&& 85 = a.val / 2 &&& 85 := by decide +kernel
theorem mask2 : ∀ a : Fin 256, ∀ r : Fin 4, (a.val / 4 + 64 * r.val) &&& 51 = a.val / 4 &&& 51 := by decide +kernel
theorem t1_le : ∀ a : Fin 256, t1 a.val ≤ 170 := by decide +kernel
theorem t2_le : ∀ a : Fin 256, t2 (t1 a.val) ≤ 68 := by decide +kernel
theorem t2_le2 : ∀ a : Fin 256, t2 (t1 a.val) / 16 ≤ 4 ∧ t2 (t1 a.val) % 16 ≤ 4 := by decide +kernel
theorem mask3 : ∀ a : Fin 80, ∀ r : Fin 8, (a.val / 16 + 16 * r.val + a.val) % 256 &&& 15 = t3 a.val ∨ 5 ≤ a.val / 16 ∨ 5 ≤ a.val % 16 := by decide +kernel
theorem count8 : ∀ a : Fin 256, t3 (t2 (t1 a.val)) = pop 8 a.val := by decide +kernel
theorem pop8_le : ∀ a : Fin 256, pop 8 a.val ≤ 8 := by decide +kernel

theorem s1_step (n a h : Nat) (ha : a < 256) : s1 (n + 1) (a + 256 * h) = t1 a + 256 * s1 n h := by
  have e : (a + 256 * h) / 2 = (a / 2 + 128 * (h % 2)) + 256 * (h / 2) := by omega
  have m := mask1 ⟨a, ha⟩ ⟨h % 2, by omega⟩
  simp only at m
  simp only [s1, rep, t1]
  rw [e, land_split _ _ _ _ (by omega) (by omega), land_split _ _ _ _ ha (by omega), m]
  omega

theorem s2_step (n a h : Nat) (ha : a < 256) : s2 (n + 1) (a + 256 * h) = t2 a + 256 * s2 n h := by
  have e : (a + 256 * h) / 4 = (a / 4 + 64 * (h % 4)) + 256 * (h / 4) := by omega
  have m := mask2 ⟨a, ha⟩ ⟨h % 4, by omega⟩
  simp only at m
  simp only [s2, rep, t2]
  rw [e, land_split _ _ _ _ (by omega) (by omega), land_split _ _ _ _ ha (by omega), m]
  omega

/-- Below 69 in each half byte at most 4: what comes in from above stays away from the low half. -/
theorem s3_step (n a h : Nat) (ha : a < 80) (h1 : a / 16 ≤ 4) (h2 : a % 16 ≤ 4) (hh : h % 16 ≤ 4) : s3 (n + 1) (a + 256 * h) = t3 a + 256 * s3 n h := by
  have e : (a + 256 * h) / 16 + (a + 256 * h) = (a / 16 + 16 * (h % 16) + a) + 256 * (h / 16 + h) := by omega
  have m := mask3 ⟨a, ha⟩ ⟨h % 16, by omega⟩
  simp only at m
  have hlt : a / 16 + 16 * (h % 16) + a < 256 := by omega
  rw [Nat.mod_eq_of_lt hlt] at m
  simp only [s3, rep]
  rw [e, land_split _ _ _ _ hlt (by omega)]
  rcases m with m | m | m
  · rw [m]
  · omega
  · omega

def bytes (n x : Nat) : Nat := match n with
  | 0 => 0
  | n + 1 => pop 8 (x % 256) + 256 * bytes n (x / 256)

theorem low_le (n x : Nat) : s2 n (s1 n x) % 16 ≤ 4 := by
  cases n with
  | zero => simp [s2, rep]
  | succ n =>
    have e : x = x % 256 + 256 * (x / 256) := by omega
    have h1 := t1_le ⟨x % 256, by omega⟩
    have h2 := t2_le2 ⟨x % 256, by omega⟩
    simp only at h1 h2
    rw [e, s1_step _ _ _ (by omega), s2_step _ _ _ (by omega)]
    omega

theorem swar : ∀ (n x : Nat), s3 n (s2 n (s1 n x)) = bytes n x
  | 0, x => by simp [s3, rep, bytes]
  | n + 1, x => by
    have e : x = x % 256 + 256 * (x / 256) := by omega
    have h1 := t1_le ⟨x % 256, by omega⟩
    have h2 := t2_le2 ⟨x % 256, by omega⟩
    have h3 := count8 ⟨x % 256, by omega⟩
    have h4 := low_le n (x / 256)
    have h5 := t2_le ⟨x % 256, by omega⟩
    simp only at h1 h2 h3 h5
    have ee : s3 (n + 1) (s2 (n + 1) (s1 (n + 1) x)) = s3 (n + 1) (s2 (n + 1) (s1 (n + 1) (x % 256 + 256 * (x / 256)))) := by rw [← e]
    rw [ee, s1_step _ _ _ (by omega), s2_step _ _ _ (by omega), s3_step _ _ _ (by omega) (by omega) (by omega) h4, h3, swar n (x / 256)]
    rfl

/-- The three folds, and the mask of 127. -/
def fold1 (x : Nat) : Nat := x + x / 256
def fold2 (x : Nat) : Nat := x + x / 65536
def fold3 (x : Nat) : Nat := x + x / 4294967296

theorem pop64 (x : Nat) : pop 64 x = pop 8 (x % 256) + pop 8 (x / 256 % 256) + pop 8 (x / 65536 % 256) + pop 8 (x / 16777216 % 256) + pop 8 (x / 4294967296 % 256) + pop 8 (x / 1099511627776 % 256) + pop 8 (x / 281474976710656 % 256) + pop 8 (x / 72057594037927936 % 256) := by
  have s : ∀ n y, pop (8 + n) y = pop 8 (y % 256) + pop n (y / 256) := fun n y => pop_add 8 n y
  rw [show (64 : Nat) = 8 + (8 + (8 + (8 + (8 + (8 + (8 + (8 + 0))))))) from rfl, s, s, s, s, s, s, s, s]
  simp only [Nat.div_div_eq_div_mul, pop]
  simp only [Nat.reduceMul, Nat.add_zero]
  omega

theorem folds (x : Nat) :
    let b := bytes 8 x
    b < 651061555542690057 ∧ fold1 b < 18446744073709551616 ∧ fold2 (fold1 b) < 18446744073709551616 ∧ fold3 (fold2 (fold1 b)) < 9223372036854775808 ∧ fold3 (fold2 (fold1 b)) % 128 = pop 64 x := by
  have p : ∀ y, pop 8 (y % 256) ≤ 8 := fun y => pop8_le ⟨y % 256, by omega⟩
  have q0 := p x; have q1 := p (x / 256); have q2 := p (x / 65536); have q3 := p (x / 16777216); have q4 := p (x / 4294967296)
  have q5 := p (x / 1099511627776); have q6 := p (x / 281474976710656); have q7 := p (x / 72057594037927936)
  rw [pop64]
  simp only [bytes, Nat.div_div_eq_div_mul, Nat.reduceMul]
  generalize pop 8 (x % 256) = a0 at *; generalize pop 8 (x / 256 % 256) = a1 at *; generalize pop 8 (x / 65536 % 256) = a2 at *; generalize pop 8 (x / 16777216 % 256) = a3 at *
  generalize pop 8 (x / 4294967296 % 256) = a4 at *; generalize pop 8 (x / 1099511627776 % 256) = a5 at *; generalize pop 8 (x / 281474976710656 % 256) = a6 at *; generalize pop 8 (x / 72057594037927936 % 256) = a7 at *
  clear p
  have f1 : fold1 (a0 + 256 * (a1 + 256 * (a2 + 256 * (a3 + 256 * (a4 + 256 * (a5 + 256 * (a6 + 256 * (a7 + 256 * 0)))))))) = (a0 + a1) + 256 * ((a1 + a2) + 256 * ((a2 + a3) + 256 * ((a3 + a4) + 256 * ((a4 + a5) + 256 * ((a5 + a6) + 256 * ((a6 + a7) + 256 * a7)))))) := by
    unfold fold1; omega
  have f2 : ∀ b0 b1 b2 b3 b4 b5 b6 b7 : Nat, b0 ≤ 16 → b1 ≤ 16 → b2 ≤ 16 → b3 ≤ 16 → b4 ≤ 16 → b5 ≤ 16 → b6 ≤ 16 → b7 ≤ 16 → fold2 (b0 + 256 * (b1 + 256 * (b2 + 256 * (b3 + 256 * (b4 + 256 * (b5 + 256 * (b6 + 256 * b7))))))) = (b0 + b2) + 256 * ((b1 + b3) + 256 * ((b2 + b4) + 256 * ((b3 + b5) + 256 * ((b4 + b6) + 256 * ((b5 + b7) + 256 * (b6 + 256 * b7)))))) := by
    intros; unfold fold2; omega
  have f3 : ∀ b0 b1 b2 b3 b4 b5 b6 b7 : Nat, b0 ≤ 32 → b1 ≤ 32 → b2 ≤ 32 → b3 ≤ 32 → b4 ≤ 32 → b5 ≤ 32 → b6 ≤ 32 → b7 ≤ 32 → fold3 (b0 + 256 * (b1 + 256 * (b2 + 256 * (b3 + 256 * (b4 + 256 * (b5 + 256 * (b6 + 256 * b7))))))) = (b0 + b4) + 256 * ((b1 + b5) + 256 * ((b2 + b6) + 256 * ((b3 + b7) + 256 * (b4 + 256 * (b5 + 256 * (b6 + 256 * b7)))))) := by
    intros; unfold fold3; omega
  rw [f1, f2 _ _ _ _ _ _ _ _ (by omega) (by omega) (by omega) (by omega) (by omega) (by omega) (by omega) (by omega), f3 _ _ _ _ _ _ _ _ (by omega) (by omega) (by omega) (by omega) (by omega) (by omega) (by omega) (by omega)]
  refine ⟨by omega, by omega, by omega, by omega, by omega⟩

/-! ### Powers of two -/
def isP2 (x : Nat) : Bool := x != 0 && (x &&& (x - 1)) == 0

theorem isP2_iff (x : Nat) : isP2 x = true ↔ ∃ k, x = 2 ^ k := by
  have := @Nat.ne_zero_and_sub_one_eq_zero_iff_isPowerOfTwo x
  unfold isP2
  simp only [Bool.and_eq_true, bne_iff_ne, beq_iff_eq]
  rw [this]
  rfl

theorem isP2_lt (x : Nat) (h : x < 2 ^ 64) : isP2 x = true ↔ ∃ k, k < 64 ∧ x = 2 ^ k := by
  rw [isP2_iff]
  constructor
  · rintro ⟨k, e⟩
    exact ⟨k, by subst e; exact (Nat.pow_lt_pow_iff_right (by decide)).1 h, e⟩
  · rintro ⟨k, _, e⟩; exact ⟨k, e⟩

theorem pop_isP2 (x : Nat) (h : x < 18446744073709551616) : (pop 64 x == 1) = isP2 x := by
  rw [Bool.eq_iff_iff, beq_iff_eq, pop_eq_one 64 x h, isP2_lt x h]

/-- '&^' of a power of two less one: the multiple below. -/
theorem andNot_mask (x k : Nat) (hx : x < 18446744073709551616) (_hk : k < 64) : x &&& (18446744073709551615 - (2 ^ k - 1)) = x / 2 ^ k * 2 ^ k := by
  apply Nat.eq_of_testBit_eq
  intro i
  have hp : 2 ^ k < 18446744073709551616 := Nat.pow_lt_pow_of_lt (a := 2) (n := k) (m := 64) (by decide) _hk
  have hp0 : 0 < 2 ^ k := Nat.two_pow_pos k
  have e : 18446744073709551615 - (2 ^ k - 1) = 2 ^ 64 - ((2 ^ k - 1) + 1) := by omega
  rw [e, Nat.testBit_and, Nat.testBit_two_pow_sub_succ (by omega), Nat.testBit_two_pow_sub_one, Nat.testBit_mul_two_pow, Nat.testBit_div_two_pow]
  by_cases hi : i < 64
  · by_cases hki : k ≤ i
    · have h2 : i - k + k = i := by omega
      simp [hi, hki, h2]
    · simp [hki]; omega
  · have : x.testBit i = false := Nat.testBit_lt_two_pow (Nat.lt_of_lt_of_le (show x < 2 ^ 64 from hx) (Nat.pow_le_pow_right (by decide) (by omega)))
    have h3 : ∀ hki : k ≤ i, i - k + k = i := by omega
    by_cases hki : k ≤ i
    · simp [this, hi, h3 hki]
    · simp [this, hki]

end Go.Proofs.Ytclmdjkihijciaa.CalcMath
