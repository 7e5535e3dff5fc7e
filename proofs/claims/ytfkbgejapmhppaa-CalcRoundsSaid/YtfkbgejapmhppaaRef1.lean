/- The document's answers for layer 1: of, trim, more, back: contracts. -/
import Derived.Test.YtfkbgejapmhppaaRows
import Derived.Test.YtfkbgejapmhppaaInts
import Derived.WalkKit
import Derived.WalkSpells
import Derived.WalkLawsBesides
import Derived.Outline
import Derived.OwnWalk
import Derived.Lib.Hide
import Derived.Deep.QuietTactic
import Derived.BigQuiet
namespace Go.Proofs.Ytfkbgejapmhppaa.Dig
open Go.RowKit

theorem infoI : (Try.prog.info? 3).map (fun i => (i.zero, i.size, i.bytes)) = some (some (.int .i64 0), 1, 8) := by kernel_rfl

theorem int_eq {k : IntKind} {a b : Int} (h : a = b) : Value.int k a = .int k b := by rw [h]
theorem ret_bool {a b : Bool} (h : a = b) : Ending.returned (.bool a) = .returned (.bool b) := by rw [h]

/-- It hands back a slice that reads as a list with a property; what lay below stands. -/
def Fits (v : Value) : Prop := ∀ a n cap, v = .slice a n cap → n ≤ cap
def RetLong (w : World) (P : List Nat → Prop) (e : Ending) (w' : World) : Prop := ∃ v R, e = .returned v ∧ I64s w' v R ∧ P R ∧ Below w.heap.size w w' ∧ Fits v
theorem Fits.mk {a : Option Addr} {n cap : Nat} (h : n ≤ cap) : Fits (.slice a n cap) := by intro a' n' c' e; injection e; omega
theorem fits_owns {w : World} {base : Nat} {e : TypeId} {v : Value} {n : Nat} {xs : List Value} (h : w.ownsRow base e 1 v n xs) : Fits v := by
  rcases h.2 with ⟨rfl, h0⟩ | ⟨g, cap, cur, rfl, _, _, hc, _⟩
  · exact Fits.mk (Nat.le_refl 0)
  · exact Fits.mk hc

theorem reads_owns {w : World} {base : Nat} {e : TypeId} {v : Value} {D : List Nat} (h : w.ownsRow base e 1 v D.length (D.map numI)) : I64s w v D := by
  rcases h.2 with ⟨rfl, h0⟩ | ⟨g, cap, cur, rfl, _, hg, _, _, _, ht⟩
  · exact .inr ⟨List.length_eq_zero_iff.1 h0, none, 0, rfl, fun _ => rfl⟩
  · exact reads_of_row hg ht (List.prefix_refl _)

def OfRel (w : World) (X : Nat) (xs ls : Value) (wr : World) : Prop :=
  ∃ (y : Nat) (D : List Nat), xs = .int .u64 y ∧ wr.ownsRow w.heap.size 3 1 ls D.length (D.map numI) ∧ Below w.heap.size w wr ∧ Small D ∧ val D + 10000 ^ D.length * y = X ∧ (y = 0 → D.length = 0 ∨ D.getD (D.length - 1) 0 ≠ 0)

theorem of_len {X y : Nat} {D : List Nat} (hX : X ≤ 18446744073709551615) (hy : 0 < y) (h : val D + 10000 ^ D.length * y = X) : D.length ≤ 4 := by
  have h1 : 10000 ^ D.length * 1 ≤ 10000 ^ D.length * y := Nat.mul_le_mul_left _ hy
  have h2 : 10000 ^ D.length < 10000 ^ 5 := by
    have : (10000 : Nat) ^ 5 = 100000000000000000000 := by decide
    omega
  have := (Nat.pow_lt_pow_iff_right (a := 10000) (by decide)).1 h2
  omega

theorem of_step {X y : Nat} {D : List Nat} (hy : 0 < y) (hs : Small D) (h : val D + 10000 ^ D.length * y = X) :
    Small (D ++ [y % 10000]) ∧ val (D ++ [y % 10000]) + 10000 ^ (D ++ [y % 10000]).length * (y / 10000) = X ∧ (y / 10000 = 0 → (D ++ [y % 10000]).length = 0 ∨ (D ++ [y % 10000]).getD ((D ++ [y % 10000]).length - 1) 0 ≠ 0) := by
  refine ⟨fun d hd => ?_, ?_, fun h0 => .inr ?_⟩
  · rcases List.mem_append.1 hd with h | h
    · exact hs d h
    · simp at h; omega
  · rw [val_append]
    simp only [val, Nat.mul_zero, Nat.add_zero, List.length_append, List.length_cons, List.length_nil, Nat.zero_add, Nat.pow_succ]
    rw [Nat.mul_assoc, Nat.add_assoc, ← Nat.mul_add, show y % 10000 + 10000 * (y / 10000) = y by omega]
    exact h
  · have : (D ++ [y % 10000]).getD ((D ++ [y % 10000]).length - 1) 0 = y % 10000 := by simp [List.getD_eq_getElem?_getD]
    rw [this]; omega

set_option maxHeartbeats 400000 in
theorem of_any (X : Nat) (hX : X ≤ 18446744073709551615) (w : World) :
    Calls Try.prog 27 #[.int .u64 (X : Int)] w (RetLong w fun R => Norm R ∧ val R = X) := by
  obtain ⟨i0, hi, hz0, hz1, hz2⟩ := info_parts infoI
  go_enter Try.func27, Try.ntmps27
  go_wp2
  go_loopw [0, 3] (fun xs ls wr => OfRel w X xs ls wr) (fun xs _ _ => (intOf xs).toNat)
  case atStart => exact ⟨X, [], rfl, World.ownsRow_nil _ _ _ _, Below.refl _ _, fun d hd => by simp at hd, by simp [val], fun _ => .inl rfl⟩
  case round =>
    obtain ⟨y, D, rfl, hown, hb, hs, hv, hn⟩ := hrel
    have sz := hb.size
    by_cases hy : 0 < y
    · have hlen := of_len hX hy hv
      have step := Lib.hid (of_step hy hs hv)
      have hyb : y ≤ 18446744073709551615 := by
        have : 1 * y ≤ 10000 ^ D.length * y := Nat.mul_le_mul_right _ (pow_pos _)
        omega
      clear hv hn hs
      go_wp2_with (at_builtin; refine wpList_append_own _ rfl _ _ 41 rfl w.heap.size 3 i0 (.int .i64 0) 1 8 Try.underlying41 hi hz0 hz1 hz2 rfl (by decide) _ _ _ rfl (hown.alloc _) ⟨wr.heap.size, 0, none⟩ 1 1 [.int .i64 ((y : Int) % 10000)] rfl rfl ?_ ?_ ?_ ?_ ?_ ?_; exact cell_one_new _ _ _; intro u hu; simp at hu; subst hu; rfl; simp only [maxLen]; omega; omega; simp; omega; intro v1 w2 o1 g1 _)
      have e1 : ((y : Int) / 10000) = ((y / 10000 : Nat) : Int) := by omega
      have e2 : Value.int .i64 ((y : Int) % 10000) = numI (y % 10000) := rfl
      have o2 : w2.ownsRow w.heap.size 3 1 v1 (D ++ [y % 10000]).length ((D ++ [y % 10000]).map numI) := by
        rw [List.length_append, List.map_append, List.map_cons, List.map_nil, ← e2]; exact o1
      have b2 : Below w.heap.size w w2 := (hb.alloc sz _).grown g1 (by simp; try omega) (fun k hk => (hown.lt k hk).1)
      exact ⟨⟨y / 10000, D ++ [y % 10000], by rw [e1], o2, b2, step.out.1, step.out.2.1, step.out.2.2⟩, by simp [intOf]; omega⟩
    · obtain rfl : y = 0 := by omega
      have hr := reads_owns hown
      have hN : Norm D := ⟨hs, hn rfl⟩
      have hV : val D = X := by simpa using hv
      have HH := Lib.hid (And.intro hr (And.intro (And.intro hN hV) (And.intro hb (fits_owns hown))))
      clear hr hN hV hs hn hv hown hb
      go_wp2
      go_ret
      exact ⟨_, D, rfl, HH.out.1, HH.out.2.1, HH.out.2.2⟩

/-! ### trim -/
def lenV : Value → Nat
  | .slice _ n _ => n
  | _ => 0

theorem run_slice_upto {P : Program} (t : TypeId) (ht : P.underlying t = some (.slice (P.elem t))) (hsz : ∀ w, (sizeOf (P.elem t)).run P w = .ok 1 w) (a : Option Addr) (n cap k : Nat) (hk : k ≤ cap) (K : Int) (hK : K = (k : Int)) (w : World) :
    (Instr.slice t (.slice a n cap) none (some (.int .i64 K)) none).run P w = .ok (.slice a k cap) w := by
  subst hK
  rw [run_slice_h (P := P) (w := w) t a n cap ht .i64 (k : Int) (by omega) (by omega), hsz]
  simp only [Result.andThen_ok, sliced, Int.toNat_natCast, Nat.sub_zero, addr_zero, ite_self]

theorem sizeLong (w : World) : (sizeOf (Try.prog.elem 41)).run Try.prog w = .ok 1 w := by kernel_rfl

def RetTrim (w : World) (g cap : Nat) (L : List Nat) (e : Ending) (w' : World) : Prop := ∃ m, m ≤ L.length ∧ e = .returned (.slice (some ⟨g, 0, none⟩) m cap) ∧ Norm (L.take m) ∧ val (L.take m) = val L ∧ w = w'
def TrimRel (g cap : Nat) (L : List Nat) (s : Value) : Prop := ∃ k, k ≤ L.length ∧ s = .slice (some ⟨g, 0, none⟩) k cap ∧ val (L.take k) = val L

set_option maxHeartbeats 400000 in
theorem trim_any (w : World) (g cap : Nat) (L : List Nat) (hs : Small L) (hcap : L.length ≤ cap) (hbig : cap ≤ 9223372036854775807) (hc : ∀ j, j < L.length → w.cell? ⟨g, j, none⟩ = some (.int .i64 ((L.getD j 0 : Nat) : Int))) :
    Calls Try.prog 35 #[.slice (some ⟨g, 0, none⟩) L.length cap] w (RetTrim w g cap L) := by
  have HS := Lib.hid hs; clear hs
  have HC := Lib.hid hc; clear hc
  go_enter Try.func35, Try.ntmps35
  go_wp2
  go_loop [0] (fun s => TrimRel g cap L s) (fun s => lenV s)
  case atStart => exact ⟨L.length, Nat.le_refl _, rfl, by rw [List.take_length]⟩
  case round =>
    obtain ⟨k, hk, rfl, hv⟩ := hrel
    have HV := Lib.hid hv; clear hv
    by_cases h0 : k = 0
    · subst h0
      go_wp2
      go_ret
      exact ⟨0, by omega, rfl, trim_done HS.out hk (.inl rfl), HV.out, rfl⟩
    · have hcell := HC.out (k - 1) (by omega)
      obtain ⟨d, hd⟩ : ∃ d, L.getD (k - 1) 0 = d := ⟨_, rfl⟩
      have HD := Lib.hid hd
      rw [hd] at hcell; clear hd
      have k1 : 1 ≤ k := by omega
      have hrun := fun w => run_slice_upto (P := Try.prog) 41 Try.underlying41 sizeLong (some ⟨g, 0, none⟩) k cap (k - 1) (by omega) ((k : Int) - 1) (by omega) w
      clear h0
      by_cases hz : d = 0
      · have ht : ((d : Int) == 0) = true := beq_iff_eq.2 (by omega)
        have HZ := Lib.hid hz; clear hz
        go_wp2
        exact ⟨⟨k - 1, by omega, rfl, (trim_step (by omega) hk (by rw [HD.out]; exact HZ.out)).trans HV.out⟩, by simp [lenV]; omega⟩
      · have ht : ((d : Int) == 0) = false := beq_eq_false_iff_ne.2 (by omega)
        go_wp2
        go_ret
        exact ⟨k, hk, rfl, trim_done HS.out hk (.inr (by rw [HD.out]; exact hz)), HV.out, rfl⟩

/-! ### more -/
theorem I64s.shape {w : World} {v : Value} {l : List Nat} (h : I64s w v l) : ∃ a cap, v = .slice a l.length cap ∧ (0 < l.length → ∃ b off, a = some ⟨b, off, none⟩ ∧ ∀ j, j < l.length → w.cell? ⟨b, off + j, none⟩ = some (.int .i64 ((l.getD j 0 : Nat) : Int))) := by
  rcases h with ⟨b, off, cap, rfl, hc⟩ | ⟨rfl, a, cap, rfl, _⟩
  · exact ⟨_, cap, rfl, fun _ => ⟨b, off, rfl, hc⟩⟩
  · exact ⟨a, cap, rfl, fun h => by simp at h⟩

def MoreRel (w : World) (A B : List Nat) (i : Value) (wr : World) : Prop := ∃ I : Int, -1 ≤ I ∧ I < A.length ∧ i = .int .i64 I ∧ val (A.drop (I + 1).toNat) = val (B.drop (I + 1).toNat) ∧ Below w.heap.size w wr

theorem more_len (w : World) (a1 a2 : Option Addr) (n1 n2 c1 c2 : Nat) (hne : n1 ≠ n2) :
    Calls Try.prog 36 #[.slice a1 n1 c1, .slice a2 n2 c2] w fun e w' => e = .returned (.bool (decide (n2 < n1))) ∧ w = w' := by
  have h1 : ((n1 : Int) != (n2 : Int)) = true := by rw [bne_iff_ne]; omega
  go_enter Try.func36, Try.ntmps36
  go_wp2
  go_ret
  exact ⟨ret_bool (by simp), rfl⟩

theorem more_none (w : World) (a1 a2 : Option Addr) (c1 c2 : Nat) :
    Calls Try.prog 36 #[.slice a1 0 c1, .slice a2 0 c2] w fun e w' => e = .returned (.bool false) ∧ Below w.heap.size w w' := by
  go_enter Try.func36, Try.ntmps36
  go_wp2
  go_loop [5] (fun i => i = .int .i64 (-1)) (fun i => (intOf i + 1).toNat)
  case atStart => exact rfl
  case round =>
    obtain rfl := hrel
    go_wp2
    go_ret
    exact ⟨rfl, Below.refl _ _⟩

set_option maxHeartbeats 400000 in
theorem more_same (w : World) (b1 o1 b2 o2 c1 c2 : Nat) (A B : List Nat) (hA : Small A) (hB : Small B) (hl : A.length = B.length) (hn : 0 < A.length) (hbig : A.length ≤ 1000000)
    (hc1 : ∀ j, j < A.length → w.cell? ⟨b1, o1 + j, none⟩ = some (.int .i64 ((A.getD j 0 : Nat) : Int))) (hc2 : ∀ j, j < B.length → w.cell? ⟨b2, o2 + j, none⟩ = some (.int .i64 ((B.getD j 0 : Nat) : Int))) :
    Calls Try.prog 36 #[.slice (some ⟨b1, o1, none⟩) A.length c1, .slice (some ⟨b2, o2, none⟩) A.length c2] w fun e w' => e = .returned (.bool (decide (val B < val A))) ∧ Below w.heap.size w w' := by
  have HA := Lib.hid hA; have HB := Lib.hid hB; have HL := Lib.hid hl
  have C1 := Lib.hid hc1; have C2 := Lib.hid hc2
  clear hA hB hl hc1 hc2
  go_enter Try.func36, Try.ntmps36
  go_wp2
  go_loopw [5] (fun i wr => MoreRel w A B i wr) (fun i _ => (intOf i + 1).toNat)
  case atStart =>
    refine ⟨(A.length : Int) - 1, by omega, by omega, rfl, ?_, Below.refl _ _⟩
    have h2 := HL.out
    rw [List.drop_eq_nil_of_le (by omega), List.drop_eq_nil_of_le (by omega)]
  case round =>
    obtain ⟨I, hI1, hI2, rfl, hv, hb⟩ := hrel
    have HV := Lib.hid hv; clear hv
    by_cases hI : I < 0
    · have hz : decide (val B < val A) = false := by
        have := HV.out
        rw [show (I + 1).toNat = 0 by omega, List.drop_zero, List.drop_zero] at this
        exact decide_eq_false (by omega)
      have HZ := Lib.hid hz; clear hz
      go_wp2
      go_ret
      exact ⟨ret_bool (by rw [HZ.out]), hb⟩
    · obtain ⟨k, rfl⟩ := Int.eq_ofNat_of_zero_le (show 0 ≤ I by omega)
      have hk : k < A.length := by omega
      have hkb : k < B.length := by rw [← HL.out]; exact hk
      have tail : val (A.drop (k + 1)) = val (B.drop (k + 1)) := HV.out
      have HT := Lib.hid tail
      clear hI hI1 hI2 tail HV
      obtain ⟨x, hx⟩ : ∃ x, A.getD k 0 = x := ⟨_, rfl⟩
      obtain ⟨y, hy⟩ : ∃ y, B.getD k 0 = y := ⟨_, rfl⟩
      have hcx := C1.out k hk
      have hcy := C2.out k hkb
      rw [hx] at hcx; rw [hy] at hcy
      have bx := World.block_lt_of_cell? w _ hcx
      have b_y := World.block_lt_of_cell? w _ hcy
      have gx : wr.cell? ⟨b1, o1 + k, none⟩ = some (.int .i64 (x : Int)) := by rw [hb.cell (p := ⟨b1, o1 + k, none⟩) bx]; exact hcx
      have gy : wr.cell? ⟨b2, o2 + k, none⟩ = some (.int .i64 (y : Int)) := by rw [hb.cell (p := ⟨b2, o2 + k, none⟩) b_y]; exact hcy
      have hki : (k : Int) < (A.length : Int) := by omega
      have HX := Lib.hid hx; have HY := Lib.hid hy
      clear hx hy hcx hcy bx b_y
      by_cases hxy : x = y
      · have ht : ((x : Int) != (y : Int)) = false := by rw [hxy]; simp
        have hnext : val (A.drop ((k : Int) - 1 + 1).toNat) = val (B.drop ((k : Int) - 1 + 1).toNat) := by
          rw [show ((k : Int) - 1 + 1).toNat = k by omega, val_drop A k hk, val_drop B k hkb, HX.out, HY.out, HT.out, hxy]
        have HN := Lib.hid hnext; clear hnext hxy
        go_wp2_with fail
        go_quiet (fail)
        go_wp2
        exact ⟨⟨(k : Int) - 1, by omega, by omega, rfl, HN.out, below_drewN hb _⟩, by simp only [intOf]; omega⟩
      · have ht : ((x : Int) != (y : Int)) = true := by rw [bne_iff_ne]; omega
        have hres : decide (val B < val A) = decide (y < x) := by
          rw [Bool.eq_iff_iff, decide_eq_true_iff, decide_eq_true_iff]
          constructor
          · intro h
            apply Nat.lt_of_not_le
            intro h2
            have := at_digit HA.out k hk hkb HT.out (by rw [HX.out, HY.out]; omega)
            omega
          · intro h
            exact at_digit HB.out k hkb hk HT.out.symm (by rw [HX.out, HY.out]; omega)
        have HR := Lib.hid hres; clear hres hxy
        go_wp2_with fail
        go_quiet (fail)
        go_wp2_with fail
        go_quiet (fail)
        go_wp2
        go_ret
        exact ⟨ret_bool (by rw [HR.out]), below_drewN (below_drewN hb _) _⟩

/-- Of two numbers in digits, which is greater. -/
theorem more_any (w : World) (v1 v2 : Value) (A B : List Nat) (hA : Norm A) (hB : Norm B) (h1 : I64s w v1 A) (h2 : I64s w v2 B) (hbig : A.length ≤ 1000000) :
    Calls Try.prog 36 #[v1, v2] w fun e w' => e = .returned (.bool (decide (val B < val A))) ∧ Below w.heap.size w w' := by
  obtain ⟨a1, c1, rfl, k1⟩ := h1.shape
  obtain ⟨a2, c2, rfl, k2⟩ := h2.shape
  by_cases hl : A.length = B.length
  · by_cases hn : 0 < A.length
    · obtain ⟨b1, o1, rfl, hc1⟩ := k1 hn
      obtain ⟨b2, o2, rfl, hc2⟩ := k2 (by omega)
      rw [← hl]
      exact more_same w b1 o1 b2 o2 c1 c2 A B hA.1 hB.1 hl hn hbig hc1 hc2
    · obtain rfl : A = [] := List.length_eq_zero_iff.1 (by omega)
      obtain rfl : B = [] := List.length_eq_zero_iff.1 (by simpa using hl.symm)
      exact more_none w a1 a2 c1 c2
  · refine (more_len w a1 a2 A.length B.length c1 c2 hl).mono fun e w' ⟨he, hw⟩ => ⟨?_, by subst hw; exact Below.refl _ _⟩
    rw [he]
    refine ret_bool ?_
    rw [Bool.eq_iff_iff, decide_eq_true_iff, decide_eq_true_iff]
    constructor
    · exact longer hA hB
    · intro h
      apply Nat.lt_of_not_le
      intro h2
      have := longer hB hA (by omega)
      omega

/-! ### back -/
def backV (x : Nat) : Nat := if x ≤ 1099511627776 then x else 0
def backE (x : Nat) : Nat := if x ≤ 1099511627776 then 0 else 3

theorem of_40 (w : World) : Calls Try.prog 27 #[.int .u64 1099511627776] w (RetLong w fun R => Norm R ∧ val R = 1099511627776) := of_any 1099511627776 (by decide) w

def BackRel (L : List Nat) (x i : Value) : Prop := ∃ I : Int, -1 ≤ I ∧ I < L.length ∧ i = .int .i64 I ∧ x = .int .u64 (val (L.drop (I + 1).toNat) : Nat)

theorem drop_le (L : List Nat) (k : Nat) (hk : k ≤ L.length) : val (L.drop k) ≤ val L := by
  have e := val_split L k hk
  have : 1 * val (L.drop k) ≤ 10000 ^ k * val (L.drop k) := Nat.mul_le_mul_right _ (pow_pos k)
  omega

set_option maxHeartbeats 400000 in
theorem back_any (w : World) (v : Value) (L : List Nat) (hN : Norm L) (h : I64s w v L) (hbig : L.length ≤ 1000000) :
    Calls Try.prog 29 #[v] w fun e w' => e = .returned (.tuple #[.int .u64 (backV (val L) : Nat), .int .i64 (backE (val L) : Nat)]) ∧ Below w.heap.size w w' := by
  by_cases hgt : 1099511627776 < val L
  · have f1 : backV (val L) = 0 := by unfold backV; rw [if_neg (by omega)]
    have f2 : backE (val L) = 3 := by unfold backE; rw [if_neg (by omega)]
    have F1 := Lib.hid f1; have F2 := Lib.hid f2; have HG := Lib.hid hgt
    have HN := Lib.hid hN
    clear f1 f2 hgt hN
    go_enter Try.func29, Try.ntmps29
    go_wp2_with (go_at_call 27; refine (of_40 _).mono ?_; rintro e w1 ⟨v1, R1, rfl, r1, ⟨n1, e1⟩, b1, _⟩; have E1 := Lib.hid e1; clear e1)
    have hm := more_any w1 v v1 L R1 HN.out n1 (h.below (Nat.le_refl _) b1) r1 hbig
    rw [E1.out, decide_eq_true HG.out] at hm
    refine hm.mono ?_; rintro e w2 ⟨rfl, b2⟩
    have bb := b1.trans (b2.mono b1.size)
    clear hm
    go_wp2
    go_ret2
    exact ⟨by rw [F1.out, F2.out]; rfl, bb⟩
  · have f1 : backV (val L) = val L := by unfold backV; rw [if_pos (by omega)]
    have f2 : backE (val L) = 0 := by unfold backE; rw [if_pos (by omega)]
    have F1 := Lib.hid f1; have F2 := Lib.hid f2; have HG := Lib.hid hgt
    have HN := Lib.hid hN
    clear f1 f2 hgt hN
    obtain ⟨a, cap, rfl, hsh⟩ := h.shape
    have SH := Lib.hid hsh; clear hsh
    have hn : L.length = 0 ∨ 0 < L.length := by omega
    rcases hn with hn | hn
    · obtain rfl : L = [] := List.length_eq_zero_iff.1 hn
      clear hn
      go_enter Try.func29, Try.ntmps29
      go_wp2_with (go_at_call 27; refine (of_40 _).mono ?_; rintro e w1 ⟨v1, R1, rfl, r1, ⟨n1, e1⟩, b1, _⟩; have E1 := Lib.hid e1; clear e1)
      have hm := more_any w1 _ v1 [] R1 HN.out n1 (h.below (Nat.le_refl _) b1) r1 hbig
      rw [E1.out, decide_eq_false HG.out] at hm
      refine hm.mono ?_; rintro e w2 ⟨rfl, b2⟩
      have bb := b1.trans (b2.mono b1.size)
      clear hm
      go_wp2_with fail
      go_loop [4, 5] (fun x i => x = .int .u64 0 ∧ i = .int .i64 (-1)) (fun _ i => (intOf i + 1).toNat)
      case atStart => exact ⟨rfl, rfl⟩
      case round =>
        obtain ⟨rfl, rfl⟩ := hrel
        go_wp2
        go_ret2
        exact ⟨by rw [F1.out, F2.out]; rfl, bb⟩
    · obtain ⟨b, off, rfl, hc⟩ := SH.out hn
      have HC := Lib.hid hc
      clear hc
      go_enter Try.func29, Try.ntmps29
      go_wp2_with (go_at_call 27; refine (of_40 _).mono ?_; rintro e w1 ⟨v1, R1, rfl, r1, ⟨n1, e1⟩, b1, _⟩; have E1 := Lib.hid e1; clear e1)
      have hm := more_any w1 _ v1 L R1 HN.out n1 (h.below (Nat.le_refl _) b1) r1 hbig
      rw [E1.out, decide_eq_false HG.out] at hm
      refine hm.mono ?_; rintro e w2 ⟨rfl, b2⟩
      have bb := b1.trans (b2.mono b1.size)
      clear hm
      go_wp2_with fail
      go_loop [4, 5] (fun x i => BackRel L x i) (fun _ i => (intOf i + 1).toNat)
      case atStart =>
        refine ⟨(L.length : Int) - 1, by omega, by omega, rfl, ?_⟩
        rw [List.drop_eq_nil_of_le (by omega)]; rfl
      case round =>
        obtain ⟨I, hI1, hI2, rfl, rfl⟩ := hrel
        by_cases hI : I < 0
        · have hz : val (L.drop (I + 1).toNat) = val L := by rw [show (I + 1).toNat = 0 by omega, List.drop_zero]
          have HZ := Lib.hid hz; clear hz
          go_wp2
          go_ret2
          exact ⟨by rw [F1.out, F2.out, HZ.out]; rfl, bb⟩
        · obtain ⟨k, rfl⟩ := Int.eq_ofNat_of_zero_le (show 0 ≤ I by omega)
          have hk : k < L.length := by omega
          have hki : (k : Int) < (L.length : Int) := by omega
          obtain ⟨d, hd⟩ : ∃ d, L.getD k 0 = d := ⟨_, rfl⟩
          have d9 : d ≤ 9999 := by rw [← hd]; exact small_getD HN.out.1 k
          have hcd := HC.out k hk
          rw [hd] at hcd
          have bd := World.block_lt_of_cell? w _ hcd
          have gd : w2.cell? ⟨b, off + k, none⟩ = some (.int .i64 (d : Int)) := by rw [bb.cell (p := ⟨b, off + k, none⟩) bd]; exact hcd
          have hvd := val_drop L k hk
          rw [hd] at hvd
          have hle := drop_le L k (by omega)
          obtain ⟨t, ht⟩ : ∃ t, val (L.drop (((k : Int) + 1).toNat)) = t := ⟨_, rfl⟩
          have ht' : val (L.drop (k + 1)) = t := ht
          rw [ht'] at hvd
          have tb : 10000 * t + d ≤ 1099511627776 := by have := HG.out; omega
          have hnext : val (L.drop ((k : Int) - 1 + 1).toNat) = d + 10000 * t := by rw [show ((k : Int) - 1 + 1).toNat = k by omega]; exact hvd
          have HNx := Lib.hid hnext
          rw [ht]
          clear hd hcd bd hvd hle ht ht' hnext hI hI1 hI2
          go_wp2
          exact ⟨⟨(k : Int) - 1, by omega, by omega, rfl, int_eq (by rw [HNx.out]; omega)⟩, by simp only [intOf]; omega⟩

end Go.Proofs.Ytfkbgejapmhppaa.Dig
