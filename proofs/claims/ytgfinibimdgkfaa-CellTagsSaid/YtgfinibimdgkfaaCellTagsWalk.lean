/- The law CellTags, walked. -/
import Derived.Test.YtgfinibimdgkfaaCellActs8
namespace Go.Proofs.Ytgfinibimdgkfaa.cellTags
open Go.RowKit
set_option linter.unusedVariables false
def Tagging (w : World) (b len : Nat) (i : Value) (wr : World) : Prop :=
  ∃ (j x t : Nat) (n : Int), j ≤ len ∧ i = .int .i64 (j : Int) ∧ t ≤ j ∧ 0 ≤ n ∧ n ≤ 3 * (j : Int) ∧ OC w b x t n wr
set_option maxRecDepth 100000 in
set_option maxHeartbeats 4000000 in
theorem walk_short (w : World) (C : Ce w) {a : Option Addr} {len cap : Nat} (F : Nat → Nat → Value) (h : Recs w (.slice a len cap) [.num .i64, .num .u64, .num .u64] len F) (hl : len ≤ 300) :
    Calls Try.prog 5 #[.slice a len cap] w fun e w' => e = .returned (.bool true) ∧ Below w.heap.size w w' := by
  have H := Lib.hid h
  have t0 : decide ((300 : Int) < (len : Int)) = false := decide_eq_false (by omega)
  clear h
  go_enter Try.func5, Try.ntmps5
  go_wp2_with fail
  refine (alive_any _ C).mono ?_; rintro e w1 ⟨rfl, hb⟩
  obtain ⟨b, hbb⟩ : ∃ b, w1.heap.size = b := ⟨_, rfl⟩
  have O0 := Lib.hid (OC.new 26 hb hbb)
  clear hb
  go_wp2
  clear hbb t0
  go_loopw [18] (fun i wr => Tagging w b len i wr) (fun i _ => len - (intOf i).toNat)
  case atStart => exact ⟨0, 0, 0, 0, Nat.zero_le _, rfl, Nat.le_refl _, Int.le_refl _, by omega, O0.out⟩
  case round =>
    obtain ⟨j, x, t, n, hj, rfl, ht, hn0, hn1, ho⟩ := hrel
    have O := Lib.hid ho
    have hbl := ho.below
    clear ho
    by_cases hlt : j < len
    · obtain ⟨b2, off2, k, g, X, rfl, hlat, hk, hg, hX⟩ := act8 H.out hlt
      obtain ⟨c0, c1, c2⟩ := hlat _ hbl
      obtain ⟨bc, hbc⟩ : ∃ v, wr.heap.size = v := ⟨_, rfl⟩
      have ST := Lib.hid (O.out.act #[.int .i64 k, .int .u64 (g : Int), .int .u64 (X : Int)] hbc)
      have LD := Lib.hid (fun (y s : Nat) (m : Int) (hm : AskB m) w' (h : OA w b y s m bc #[.int .i64 k, .int .u64 (g : Int), .int .u64 (X : Int)] w') => oa_load C hm w' h)
      have hA1 : AskB n := ⟨hn0, by omega⟩
      have hA2 : AskB (n + 1) := ⟨by omega, by omega⟩
      have hA3 : AskB (n + 1 + 1) := ⟨by omega, by omega⟩
      have hT : TagB t := by show t ≤ _; omega
      have q2 : decide ((j : Int) < (len : Int)) = true := decide_eq_true (by omega)
      have q2' : decide (j < len) = true := decide_eq_true hlt
      have q3 : (0 : Int) ≤ (j : Int) := by omega
      have q4 : (j : Int) < (len : Int) := by omega
      have tx : ((x : Int) != (x : Int)) = false := by simp
      have tX : ((X : Int) != (X : Int)) = false := by simp
      have tt : ((t : Int) != (t : Int)) = false := by simp
      obtain ⟨t1, ht1⟩ : ∃ v, t + 1 = v := ⟨_, rfl⟩
      have e1 : (t : Int) + 1 = (t1 : Int) := by omega
      have ht1j : t1 ≤ j + 1 := by omega
      have HT1 := Lib.hid ht1
      have tt1 : ((t1 : Int) != (t1 : Int)) = false := by simp
      have hm4 : 0 ≤ n + 1 + 1 + 1 ∧ n + 1 + 1 + 1 ≤ 3 * ((j + 1 : Nat) : Int) := ⟨by omega, by omega⟩
      have hm3 : 0 ≤ n + 1 + 1 ∧ n + 1 + 1 ≤ 3 * ((j + 1 : Nat) : Int) := ⟨by omega, by omega⟩
      have HM4 := Lib.hid hm4; have HM3 := Lib.hid hm3
      have hfin : Hid (∀ (y s : Nat) (m : Int) w', s ≤ j + 1 → 0 ≤ m ∧ m ≤ 3 * ((j + 1 : Nat) : Int) → OA w b y s m bc #[.int .i64 k, .int .u64 (g : Int), .int .u64 (X : Int)] w' → Tagging w b len (.int .i64 ((j : Int) + 1)) w') := Lib.hid (fun y s m w' h1 h2 h3 => ⟨j + 1, y, s, m, by omega, by go_num, h1, h2.1, h2.2, h3.oc⟩)
      have SS := Lib.hid (fun w' (h : OA w b x t (n + 1) bc #[.int .i64 k, .int .u64 (g : Int), .int .u64 (X : Int)] w') => oa_store C hA2 hT hX w' h)
      have SW := Lib.hid (fun w' (h : OA w b x t (n + 1) bc #[.int .i64 k, .int .u64 (g : Int), .int .u64 (X : Int)] w') => oa_swap C hA2 hT hX w' h)
      have SC := Lib.hid (fun w' (h : OA w b x t (n + 1) bc #[.int .i64 k, .int .u64 (g : Int), .int .u64 (X : Int)] w') => oa_cas C hA2 hT hg hX w' h)
      rw [ht1] at SS SW
      clear hlat hbl hm4 hm3
      have L1 := Lib.hid (LD.out x t n hA1)
      have hkind : (k = 1) ∨ (k = 2) ∨ (k = 3 ∧ g = t) ∨ (k = 3 ∧ g ≠ t) ∨ (k ≠ 1 ∧ k ≠ 2 ∧ k ≠ 3) := by omega
      rcases hkind with hk1 | hk2 | ⟨hk3, hgt⟩ | ⟨hk3, hgt⟩ | ⟨hk1, hk2, hk3⟩
      · have k1 : (k == 1) = true := by rw [beq_iff_eq]; exact hk1
        clear hk1
        go_wp2_with fail
        refine (L1.out _ ST.out).mono ?_; rintro e w5 ⟨rfl, hs⟩
        have m0 : w5.cell? ⟨bc, 0, none⟩ = some (.int .i64 k) := hs.ac.cell 0
        have m1 : w5.cell? ⟨bc, 1, none⟩ = some (.int .u64 (g : Int)) := hs.ac.cell 1
        have m2 : w5.cell? ⟨bc, 2, none⟩ = some (.int .u64 (X : Int)) := hs.ac.cell 2
        have ST := Lib.hid hs
        clear hs hbc
        go_wp2_with fail
        refine (SS.out _ ST.out).mono ?_; rintro e w6 ⟨rfl, hs⟩
        have m0 : w6.cell? ⟨bc, 0, none⟩ = some (.int .i64 k) := hs.ac.cell 0
        have m1 : w6.cell? ⟨bc, 1, none⟩ = some (.int .u64 (g : Int)) := hs.ac.cell 1
        have m2 : w6.cell? ⟨bc, 2, none⟩ = some (.int .u64 (X : Int)) := hs.ac.cell 2
        have ST := Lib.hid hs
        clear hs
        have L2 := Lib.hid (LD.out X t1 (n + 1 + 1) hA3)
        go_wp2_with fail
        refine (L2.out _ ST.out).mono ?_; rintro e w7 ⟨rfl, hs⟩
        have m2 : w7.cell? ⟨bc, 2, none⟩ = some (.int .u64 (X : Int)) := hs.ac.cell 2
        have ST := Lib.hid hs
        clear hs
        go_wp2
        go_roundw
        case rel => exact hfin.out _ _ _ _ ht1j HM4.out ST.out
        case measure => simp [intOf]; omega
      · have k1 : (k == 1) = false := by rw [beq_eq_false_iff_ne]; omega
        have k2 : (k == 2) = true := by rw [beq_iff_eq]; exact hk2
        clear hk2
        go_wp2_with fail
        refine (L1.out _ ST.out).mono ?_; rintro e w5 ⟨rfl, hs⟩
        have m0 : w5.cell? ⟨bc, 0, none⟩ = some (.int .i64 k) := hs.ac.cell 0
        have m1 : w5.cell? ⟨bc, 1, none⟩ = some (.int .u64 (g : Int)) := hs.ac.cell 1
        have m2 : w5.cell? ⟨bc, 2, none⟩ = some (.int .u64 (X : Int)) := hs.ac.cell 2
        have ST := Lib.hid hs
        clear hs hbc
        go_wp2_with fail
        refine (SW.out _ ST.out).mono ?_; rintro e w6 ⟨rfl, hs⟩
        have m0 : w6.cell? ⟨bc, 0, none⟩ = some (.int .i64 k) := hs.ac.cell 0
        have m1 : w6.cell? ⟨bc, 1, none⟩ = some (.int .u64 (g : Int)) := hs.ac.cell 1
        have m2 : w6.cell? ⟨bc, 2, none⟩ = some (.int .u64 (X : Int)) := hs.ac.cell 2
        have ST := Lib.hid hs
        clear hs
        have L2 := Lib.hid (LD.out X t1 (n + 1 + 1) hA3)
        go_wp2_with fail
        refine (L2.out _ ST.out).mono ?_; rintro e w7 ⟨rfl, hs⟩
        have m2 : w7.cell? ⟨bc, 2, none⟩ = some (.int .u64 (X : Int)) := hs.ac.cell 2
        have ST := Lib.hid hs
        clear hs
        go_wp2
        go_roundw
        case rel => exact hfin.out _ _ _ _ ht1j HM4.out ST.out
        case measure => simp [intOf]; omega
      · have k1 : (k == 1) = false := by rw [beq_eq_false_iff_ne]; omega
        have k2 : (k == 2) = false := by rw [beq_eq_false_iff_ne]; omega
        have k3 : (k == 3) = true := by rw [beq_iff_eq]; exact hk3
        have tg : ((g : Int) == (t : Int)) = true := by rw [beq_iff_eq]; omega
        rw [decide_eq_true hgt, if_pos hgt, if_pos hgt, HT1.out] at SC
        clear hk3 hgt
        go_wp2_with fail
        refine (L1.out _ ST.out).mono ?_; rintro e w5 ⟨rfl, hs⟩
        have m0 : w5.cell? ⟨bc, 0, none⟩ = some (.int .i64 k) := hs.ac.cell 0
        have m1 : w5.cell? ⟨bc, 1, none⟩ = some (.int .u64 (g : Int)) := hs.ac.cell 1
        have m2 : w5.cell? ⟨bc, 2, none⟩ = some (.int .u64 (X : Int)) := hs.ac.cell 2
        have ST := Lib.hid hs
        clear hs hbc
        go_wp2_with fail
        refine (SC.out _ ST.out).mono ?_; rintro e w6 ⟨rfl, hs⟩
        have m0 : w6.cell? ⟨bc, 0, none⟩ = some (.int .i64 k) := hs.ac.cell 0
        have m1 : w6.cell? ⟨bc, 1, none⟩ = some (.int .u64 (g : Int)) := hs.ac.cell 1
        have m2 : w6.cell? ⟨bc, 2, none⟩ = some (.int .u64 (X : Int)) := hs.ac.cell 2
        have ST := Lib.hid hs
        clear hs
        have L2 := Lib.hid (LD.out X t1 (n + 1 + 1) hA3)
        go_wp2_with fail
        refine (L2.out _ ST.out).mono ?_; rintro e w7 ⟨rfl, hs⟩
        have m2 : w7.cell? ⟨bc, 2, none⟩ = some (.int .u64 (X : Int)) := hs.ac.cell 2
        have ST := Lib.hid hs
        clear hs
        go_wp2
        go_roundw
        case rel => exact hfin.out _ _ _ _ ht1j HM4.out ST.out
        case measure => simp [intOf]; omega
      · have k1 : (k == 1) = false := by rw [beq_eq_false_iff_ne]; omega
        have k2 : (k == 2) = false := by rw [beq_eq_false_iff_ne]; omega
        have k3 : (k == 3) = true := by rw [beq_iff_eq]; exact hk3
        have tg : ((g : Int) == (t : Int)) = false := by rw [beq_eq_false_iff_ne]; omega
        rw [decide_eq_false hgt, if_neg hgt, if_neg hgt] at SC
        clear hk3 hgt
        go_wp2_with fail
        refine (L1.out _ ST.out).mono ?_; rintro e w5 ⟨rfl, hs⟩
        have m0 : w5.cell? ⟨bc, 0, none⟩ = some (.int .i64 k) := hs.ac.cell 0
        have m1 : w5.cell? ⟨bc, 1, none⟩ = some (.int .u64 (g : Int)) := hs.ac.cell 1
        have m2 : w5.cell? ⟨bc, 2, none⟩ = some (.int .u64 (X : Int)) := hs.ac.cell 2
        have ST := Lib.hid hs
        clear hs hbc
        go_wp2_with fail
        refine (SC.out _ ST.out).mono ?_; rintro e w6 ⟨rfl, hs⟩
        have m0 : w6.cell? ⟨bc, 0, none⟩ = some (.int .i64 k) := hs.ac.cell 0
        have m1 : w6.cell? ⟨bc, 1, none⟩ = some (.int .u64 (g : Int)) := hs.ac.cell 1
        have m2 : w6.cell? ⟨bc, 2, none⟩ = some (.int .u64 (X : Int)) := hs.ac.cell 2
        have ST := Lib.hid hs
        clear hs
        have L2 := Lib.hid (LD.out x t (n + 1 + 1) hA3)
        go_wp2_with fail
        refine (L2.out _ ST.out).mono ?_; rintro e w7 ⟨rfl, hs⟩
        have m2 : w7.cell? ⟨bc, 2, none⟩ = some (.int .u64 (X : Int)) := hs.ac.cell 2
        have ST := Lib.hid hs
        clear hs
        go_wp2
        go_roundw
        case rel => exact hfin.out _ _ _ _ (by omega) HM4.out ST.out
        case measure => simp [intOf]; omega
      · have k1 : (k == 1) = false := by rw [beq_eq_false_iff_ne]; omega
        have k2 : (k == 2) = false := by rw [beq_eq_false_iff_ne]; omega
        have k3 : (k == 3) = false := by rw [beq_eq_false_iff_ne]; omega
        clear hk1 hk2 hk3
        go_wp2_with fail
        refine (L1.out _ ST.out).mono ?_; rintro e w5 ⟨rfl, hs⟩
        have m0 : w5.cell? ⟨bc, 0, none⟩ = some (.int .i64 k) := hs.ac.cell 0
        have m1 : w5.cell? ⟨bc, 1, none⟩ = some (.int .u64 (g : Int)) := hs.ac.cell 1
        have m2 : w5.cell? ⟨bc, 2, none⟩ = some (.int .u64 (X : Int)) := hs.ac.cell 2
        have ST := Lib.hid hs
        clear hs hbc
        have L2 := Lib.hid (LD.out x t (n + 1) hA2)
        go_wp2_with fail
        refine (L2.out _ ST.out).mono ?_; rintro e w7 ⟨rfl, hs⟩
        have m2 : w7.cell? ⟨bc, 2, none⟩ = some (.int .u64 (X : Int)) := hs.ac.cell 2
        have ST := Lib.hid hs
        clear hs
        go_wp2
        go_roundw
        case rel => exact hfin.out _ _ _ _ (by omega) HM3.out ST.out
        case measure => simp [intOf]; omega
    · have q2 : decide ((j : Int) < (len : Int)) = false := decide_eq_false (by omega)
      have q2' : decide (j < len) = false := decide_eq_false hlt
      go_wp2
      go_ret
      exact ⟨rfl, hbl⟩
set_option maxRecDepth 100000 in
theorem walk_of (w : World) (C : Ce w) {a : Option Addr} {n cap : Nat} (len : Nat) (F : Nat → Nat → Value) (h : Recs w (.slice a n cap) [.num .i64, .num .u64, .num .u64] len F) :
    Calls Try.prog 5 #[.slice a n cap] w fun e w' => e = .returned (.bool true) ∧ Below w.heap.size w w' := by
  obtain ⟨rfl, _, _⟩ := h.len
  by_cases hl : n ≤ 300
  · exact walk_short w C F h hl
  · have t0 : decide ((300 : Int) < (n : Int)) = true := decide_eq_true (by omega)
    have t0' : decide (300 < n) = true := decide_eq_true (by omega)
    clear h
    go_enter Try.func5, Try.ntmps5
    go_wp2_with fail
    refine (alive_any _ C).mono ?_; rintro e w1 ⟨rfl, hb⟩
    have B1 := Lib.hid hb
    clear hb
    go_wp2
    go_ret
    exact ⟨rfl, B1.out⟩
end Go.Proofs.Ytgfinibimdgkfaa.cellTags
