/- The law MarkFills, walked. -/
import Derived.Test.YtfmbfonnabebmaaMarksRel
import Derived.Deep.RegionHeld3
import Derived.IntWalk
namespace Go.Proofs.Ytfmbfonnabebmaa.markFills
open Go.RowKit
set_option linter.unusedVariables false

theorem u8_bd {n : Int} (h : (Lit.int .u8 n).wf = true) : 0 ≤ n ∧ n ≤ 255 := by
  simp [Lit.wf, IntKind.min, IntKind.max, IntKind.signed, IntKind.bits] at h; omega
/-- The first a of s places are taken. -/
def taken (s a : Nat) : List Bool := MarkMath.setAt (MarkMath.rep s false) 0 a true
theorem taken_len {s a : Nat} (h : a ≤ s) : (taken s a).length = s := by unfold taken; rw [MarkMath.length_setAt _ (by rw [MarkMath.length_rep]; omega), MarkMath.length_rep]
theorem taken_at {s a : Nat} (h : a ≤ s) (j : Nat) (hj : j < s) : (taken s a).getD j false = decide (j < a) := by
  unfold taken
  rw [MarkMath.getD_setAt _ (by rw [MarkMath.length_rep]; omega), MarkMath.getD_rep]
  by_cases h1 : j < a
  · rw [if_pos (by omega), decide_eq_true h1]
  · rw [if_neg (by omega), if_pos hj, decide_eq_false h1]
theorem taken_free {s a m k : Nat} (h : a ≤ s) (hm : a ≤ m) (hk : m + k ≤ s) : MarkMath.allAt (taken s a) m k false := fun j hj => by
  rw [MarkMath.getD_def (by rw [taken_len h]; omega) _ false, taken_at h _ (by omega), decide_eq_false (by omega)]
theorem taken_full {s a k b : Nat} (h : a ≤ s) (hk : 1 ≤ k) (hs : s < a + k) : ¬ MarkMath.allAt (taken s a) b k false := fun hf => by
  have hl := hf.le hk
  rw [taken_len h] at hl
  have h1 := hf.at (i := b) (Nat.le_refl _) (by omega) false
  rw [taken_at h _ (by omega), decide_eq_false_iff_not] at h1
  omega
theorem taken_low {s a k : Nat} (h : a ≤ s) (hk : 1 ≤ k) (hs : a + k ≤ s) : MarkMath.low (taken s a) k = some a :=
  MarkMath.low_of hk ⟨taken_free h (Nat.le_refl _) hs, fun b hb hf => by
    have h1 := hf.at (i := b) (Nat.le_refl _) (by omega) false
    rw [taken_at h _ (by omega), decide_eq_false_iff_not] at h1
    exact h1 hb⟩
theorem taken_next {s a k : Nat} (hs : a + k ≤ s) : MarkMath.setAt (taken s a) a k true = taken s (a + k) := by
  unfold taken
  have := MarkMath.setAt_parts (L := MarkMath.rep s false) (a := 0) (k := a + k) (c := a) true (by omega) (by rw [MarkMath.length_rep]; omega)
  rw [Nat.zero_add, show a + k - a = k by omega] at this
  exact this
theorem taken_left {s a : Nat} (h : a ≤ s) : MarkMath.left (taken s a) = s - a := by
  have := MarkMath.left_setAt (L := MarkMath.rep s false) (a := 0) (k := a) (by rw [MarkMath.length_rep]; omega) (fun j hj => by rw [MarkMath.getD_rep, if_pos (by omega)])
  rw [MarkMath.left_rep_false] at this
  unfold taken; omega
theorem taken_none (s : Nat) : taken s 0 = MarkMath.rep s false := by unfold taken; exact MarkMath.setAt_none _ _ _
theorem taken_long {s a r : Nat} (h : a + r = s) : MarkMath.longest (taken s a) = r :=
  MarkMath.longest_eq (a := a) (taken_free (by omega) (Nat.le_refl _) (by omega)) fun b => taken_full (by omega) (by omega) (by omega)
/-- The first b of those that were taken are given back. -/
def back (s a b : Nat) : List Bool := MarkMath.setAt (taken s a) 0 b false
theorem back_none (s a : Nat) : back s a 0 = taken s a := by unfold back; exact MarkMath.setAt_none _ _ _
theorem back_len {s a b : Nat} (h : a ≤ s) (hb : b ≤ a) : (back s a b).length = s := by unfold back; rw [MarkMath.length_setAt _ (by rw [taken_len h]; omega), taken_len h]
theorem back_taken {s a b k : Nat} (h : a ≤ s) (hb : b + k ≤ a) : MarkMath.allAt (back s a b) b k (!false) := fun j hj => by
  unfold back
  rw [MarkMath.getD_setAt _ (by rw [taken_len h]; omega), if_neg (by omega), MarkMath.getD_def (by rw [taken_len h]; omega) _ false, taken_at h _ (by omega), decide_eq_true (by omega)]
  rfl
theorem back_next {s a b k : Nat} (h : a ≤ s) (hb : b + k ≤ a) : MarkMath.setAt (back s a b) b k false = back s a (b + k) := by
  unfold back
  have := MarkMath.setAt_parts (L := taken s a) (a := 0) (k := b + k) (c := b) false (by omega) (by rw [taken_len h]; omega)
  rw [Nat.zero_add, show b + k - b = k by omega] at this
  exact this
theorem back_all {s a : Nat} (h : a ≤ s) : back s a a = taken s 0 := by
  rw [taken_none]
  unfold back taken
  exact MarkMath.setAt_back (by rw [MarkMath.length_rep]; omega) (fun j hj => by rw [MarkMath.getD_rep, if_pos (by omega)])

theorem mul_in {j k a : Nat} (h : j * k = a) : (j : Int) * (k : Int) ≤ (a : Int) ∧ (a : Int) ≤ (j : Int) * (k : Int) := by
  have e : (j : Int) * (k : Int) = (a : Int) := by rw [← h]; simp
  rw [e]; exact ⟨Int.le_refl _, Int.le_refl _⟩
theorem succ_mul_in {j k b : Nat} (h : (j + 1) * k = b) : ((j : Int) + 1) * (k : Int) ≤ (b : Int) ∧ (b : Int) ≤ ((j : Int) + 1) * (k : Int) := by
  have e : ((j : Int) + 1) * (k : Int) = ((j + 1 : Nat) : Int) * (k : Int) := by simp
  rw [e]; exact mul_in h

def Filling (w : World) (p g s k q : Nat) (i : Value) (wr : World) : Prop := ∃ j : Nat, j ≤ q ∧ i = .int .i64 (j : Int) ∧ IsMarks wr p 0 g (taken s (j * k)) ∧ Below w.heap.size w wr
def Emptying (w : World) (p g s k q : Nat) (i : Value) (wr : World) : Prop := ∃ j : Nat, j ≤ q ∧ i = .int .i64 (j : Int) ∧ IsMarks wr p 0 g (back s (q * k) (j * k)) ∧ Below w.heap.size w wr

set_option maxRecDepth 100000 in
set_option maxHeartbeats 1000000 in
theorem walk_short (w : World) (n run : Nat) (hn : n ≤ 255) (hr : run ≤ 255) (s k q r : Nat) (x1 : (n : Int) % 256 + 1 = (s : Int)) (x2 : (run : Int) % (s : Int) + 1 = (k : Int)) (x3 : (s : Int) / (k : Int) = (q : Int)) (x4 : (s : Int) % (k : Int) = (r : Int))
    (hs1 : 1 ≤ s) (hs2 : s ≤ 256) (hk1 : 1 ≤ k) (hk2 : k ≤ s) (hq : q * k + r = s) (hrk : r < k) (hq2 : q ≤ s) :
    Calls Try.prog 4 #[.int .u8 (n : Int), .int .u8 (run : Int)] w fun e w' => e = .returned (.bool true) ∧ Below w.heap.size w w' := by
  have HQ := Lib.hid hq
  clear hq
  go_enter Try.func4, Try.ntmps4
  go_wp2_with fail
  refine (alive_any _).mono ?_; rintro e w1 ⟨rfl, hb⟩
  have B1 := Lib.hid hb
  have s1 := B1.out.size
  clear hb
  go_wp2_with fail
  refine (new_ok s hs1 hs2 _).mono ?_; rintro e w2 ⟨p, g, rfl, hm, hp, hg, hu⟩
  have B2 := Lib.hid (B1.out.trans (below_false hu s1))
  rw [← taken_none] at hm
  have M2 := Lib.hid hm
  have hp' : w.heap.size ≤ p := Nat.le_trans s1 hp
  have hg' : w.heap.size ≤ g := Nat.le_trans s1 hg
  have s2 := B2.out.size
  clear hu hm hp hg x1 x2
  go_wp2_with fail
  go_loopw [36] (fun i wr => Filling w p g s k q i wr) (fun i _ => q - (intOf i).toNat)
  case atStart => exact ⟨0, Nat.zero_le _, rfl, by rw [Nat.zero_mul]; exact M2.out, B2.out⟩
  case round =>
    obtain ⟨j, hj, rfl, hm, hb⟩ := hrel
    have M := Lib.hid hm; have B := Lib.hid hb
    clear hm hb
    have sr := B.out.size
    by_cases hlt : j < q
    · obtain ⟨a, ha⟩ : ∃ a, j * k = a := ⟨_, rfl⟩
      have hjk : (j + 1) * k = a + k := by rw [Nat.succ_mul, ha]
      have hak : a + k ≤ s := by
        have h1 : (j + 1) * k ≤ q * k := Nat.mul_le_mul_right k hlt
        have := HQ.out; omega
      have M' := M.out
      rw [ha] at M'
      have ht := take_any M' (k : Int)
      obtain ⟨e1, e2, e3⟩ := take_yes (L := taken s a) (k := k) hk1 (by rw [taken_len (by omega)]; exact hk2) (taken_low (by omega) hk1 hak)
      rw [e1, e2, e3, taken_next hak] at ht
      have hl := fun w' (h : IsMarks w' p 0 g (taken s (a + k))) => left_any h
      rw [taken_left hak] at hl
      obtain ⟨b, hb⟩ : ∃ b, a + k = b := ⟨_, rfl⟩
      rw [hb] at ht hl hjk hak
      obtain ⟨c, hc⟩ : ∃ c, s - b = c := ⟨_, rfl⟩
      rw [hc] at hl
      have R1 := Lib.hid (show j + 1 ≤ q by omega)
      have R2 := Lib.hid (show q - (j + 1) < q - j by omega)
      have ha256 : a ≤ 256 := by omega
      obtain ⟨p1, p2⟩ := mul_in ha
      obtain ⟨p3, p4⟩ := succ_mul_in hjk
      have t0 : ((a : Int) == (j : Int) * (k : Int)) = true := by rw [beq_iff_eq]; omega
      have t1 : ((c : Int) == (s : Int) - ((j : Int) + 1) * (k : Int)) = true := by rw [beq_iff_eq]; omega
      have HTk := Lib.hid ht; have HL := Lib.hid hl; have HJ := Lib.hid hjk
      clear ht hl hjk e1 e2 e3 M' ha hb hc
      go_wp2_with fail
      refine HTk.out.mono ?_; rintro e w3 ⟨rfl, hm, hu⟩
      have B3 := Lib.hid (B.out.trans (below_one hu sr hg')); have M3 := Lib.hid hm
      have s3 := B3.out.size
      clear hu hm HTk
      go_wp2_with fail
      refine (HL.out _ M3.out).mono ?_; rintro e w4 ⟨rfl, hb⟩
      have B4 := Lib.hid (B3.out.trans (hb.mono s3)); have M4 := Lib.hid (M3.out.grew hb)
      clear hb
      go_wp2
      go_roundw
      case rel => exact ⟨j + 1, R1.out, by go_num, by rw [HJ.out]; exact M4.out, B4.out⟩
      case measure => exact R2.out
    · obtain rfl : j = q := by omega
      clear hlt hj
      obtain ⟨a, ha⟩ : ∃ a, j * k = a := ⟨_, rfl⟩
      have hq := HQ.out
      rw [ha] at hq
      have M' := M.out
      rw [ha] at M'
      have ht := take_any M' (k : Int)
      obtain ⟨e1, e2, e3⟩ := take_full (L := taken s a) (k := k) hk1 (by rw [taken_len (by omega)]; exact hk2) (MarkMath.low_no hk1 fun b => taken_full (by omega) hk1 (by omega))
      rw [e1, e2, e3] at ht
      have hl := fun w' (h : IsMarks w' p 0 g (taken s a)) => longest_any h
      rw [taken_long hq] at hl
      have t0 : ((r : Int) == (r : Int)) = true := by simp
      have HTk := Lib.hid ht; have HL := Lib.hid hl; have HA := Lib.hid ha; have HS := Lib.hid hq
      clear ht hl e1 e2 e3 M' ha hq
      go_wp2_with fail
      refine HTk.out.mono ?_; rintro e w3 ⟨rfl, hm, hu⟩
      have B3 := Lib.hid (B.out.trans (below_one hu sr hg')); have M3 := Lib.hid hm
      have s3 := B3.out.size
      clear hu hm HTk
      go_wp2_with fail
      have X3 := Lib.hid x3
      clear x3
      have y1 : (s : Int).tmod (k : Int) = (r : Int) := by rw [Int.tmod_eq_emod_of_nonneg (by omega)]; exact x4
      have y2 : ((k : Int) == 0) = false := by rw [beq_eq_false_iff_ne]; omega
      have y4 : ¬ k = 0 := by omega
      have y5 : ¬ (k : Int) = 0 := by omega
      have y3 : IntKind.i64.wrap (r : Int) = (r : Int) := IntWalk.i64_in _ ⟨by omega, by omega⟩
      go_region_held3 (fun _ => True) (trivial) (first | (go_at_call 21; refine (HL.out _ M3.out.drew).mono ?_; rintro e w4 ⟨rfl, hb⟩; have B4 := Lib.hid (B3.out.drew.trans (hb.mono s3)); have M4 := Lib.hid (M3.out.drew.grew hb); have s4 := B4.out.size; clear hb))
      clear y1 y2 y3 y4 y5
      have x3 := X3.out
      go_wp2
      have M5 : Hid (IsMarks w4 p 0 g (back s (j * k) (0 * k))) := Lib.hid (by rw [Nat.zero_mul, back_none, HA.out]; exact M4.out)
      clear x3 x4
      go_loopw [85] (fun i wr => Emptying w p g s k j i wr) (fun i _ => j - (intOf i).toNat)
      case atStart => exact ⟨0, Nat.zero_le _, rfl, M5.out, B4.out⟩
      case round =>
        obtain ⟨i, hi, rfl, hm, hb⟩ := hrel
        have M6 := Lib.hid hm; have B6 := Lib.hid hb
        clear hm hb
        have s6 := B6.out.size
        by_cases hlt : i < j
        · obtain ⟨b, hb⟩ : ∃ b, i * k = b := ⟨_, rfl⟩
          have hik : (i + 1) * k = b + k := by rw [Nat.succ_mul, hb]
          have hbk : b + k ≤ a := by
            have h1 : (i + 1) * k ≤ j * k := Nat.mul_le_mul_right k hlt
            have := HA.out; omega
          have ha := HS.out
          obtain ⟨p1, p2⟩ := mul_in hb
          have hb256 : b ≤ 256 := by omega
          have R1 := Lib.hid (show i + 1 ≤ j by omega)
          have R2 := Lib.hid (show j - (i + 1) < j - i by omega)
          have M6' := M6.out
          rw [HA.out, hb] at M6'
          have hf : ∀ x : Int, x = (b : Int) → Calls Try.prog 15 #[.pointer (some ⟨p, 0, none⟩), .int .i64 x, .int .i64 (k : Int)] wr (Wrote wr p 0 g (back s a (b + k)) (.int .i64 0)) := by
            rintro x rfl
            have h := free_any M6' (b : Int) (k : Int) (wf_small b (by omega)) (wf_small k (by omega))
            have hall := back_taken (s := s) (a := a) (b := b) (k := k) (by omega) hbk
            rw [turnE_yes (by omega) hall, turnL_yes (by omega) hall, back_next (by omega) hbk] at h
            exact h
          have e := Lib.hid (show (i : Int) * (k : Int) = (b : Int) by omega)
          have HF := Lib.hid hf; have HI := Lib.hid hik
          clear hf M6' hb hik ha
          go_wp2_with fail
          refine (HF.out _ e.out).mono ?_; rintro e w7 ⟨rfl, hm, hu⟩
          have B7 := Lib.hid (B6.out.trans (below_one hu s6 hg')); have M7 := Lib.hid hm
          clear hu hm HF
          go_wp2
          go_roundw
          case rel => exact ⟨i + 1, R1.out, by go_num, by rw [HI.out, HA.out]; exact M7.out, B7.out⟩
          case measure => exact R2.out
        · obtain rfl : i = j := by omega
          have hs := HS.out
          have M6' := M6.out
          rw [HA.out, back_all (show a ≤ s by omega)] at M6'
          have hl := fun w' (h : IsMarks w' p 0 g (taken s 0)) => left_any h
          have hg2 := fun w' (h : IsMarks w' p 0 g (taken s 0)) => longest_any h
          rw [taken_left (Nat.zero_le _), Nat.sub_zero] at hl
          rw [taken_long (show 0 + s = s by omega)] at hg2
          have tt : ((s : Int) == (s : Int)) = true := by simp
          have M7 := Lib.hid M6'; have HL2 := Lib.hid hl; have HG2 := Lib.hid hg2
          clear hl hg2 M6' hs
          go_wp2_with fail
          refine (HL2.out _ M7.out).mono ?_; rintro e w8 ⟨rfl, hb⟩
          have B8 := Lib.hid (B6.out.trans (hb.mono s6)); have M8 := Lib.hid (M7.out.grew hb)
          have s8 := B8.out.size
          clear hb
          go_wp2_with fail
          refine (HG2.out _ M8.out).mono ?_; rintro e w9 ⟨rfl, hb⟩
          have B9 := Lib.hid (B8.out.trans (hb.mono s8))
          clear hb
          go_wp2
          go_ret
          exact ⟨rfl, B9.out⟩

theorem walk (w : World) (n : Int) (h1 : (Lit.int .u8 n).wf = true) (run : Int) (h2 : (Lit.int .u8 run).wf = true) :
    Calls Try.prog 4 #[.int .u8 n, .int .u8 run] w fun e w' => e = .returned (.bool true) ∧ Below w.heap.size w w' := by
  have b1 := u8_bd h1
  have b2 := u8_bd h2
  obtain ⟨n, rfl⟩ := Int.eq_ofNat_of_zero_le b1.1
  obtain ⟨run, rfl⟩ := Int.eq_ofNat_of_zero_le b2.1
  have hs : n % 256 + 1 ≤ 256 := by omega
  obtain ⟨s, hs'⟩ : ∃ s, n % 256 + 1 = s := ⟨_, rfl⟩
  have hk : run % s + 1 ≤ s := by have := Nat.mod_lt run (show 0 < s by omega); omega
  obtain ⟨k, hk'⟩ : ∃ k, run % s + 1 = k := ⟨_, rfl⟩
  have hd := Nat.div_add_mod s k
  have hq : s / k ≤ s := Nat.div_le_self _ _
  have hr : s % k < k := Nat.mod_lt _ (by omega)
  refine walk_short w n run (by omega) (by omega) s k (s / k) (s % k) (by omega) ?_ (Int.natCast_ediv _ _).symm (Int.natCast_emod _ _).symm (by omega) (by omega) (by omega) (by omega) (by rw [Nat.mul_comm]; exact hd) hr hq
  rw [← hk', Int.natCast_add, Int.natCast_emod]; rfl
end Go.Proofs.Ytfmbfonnabebmaa.markFills
