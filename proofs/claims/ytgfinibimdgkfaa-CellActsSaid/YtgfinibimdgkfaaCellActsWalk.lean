/- The law CellActs, walked. -/
import Derived.Test.YtgfinibimdgkfaaActs8
import Derived.Deep.RegionHeld3
namespace Go.Proofs.Ytgfinibimdgkfaa.cellActs
open Go.RowKit
set_option linter.unusedVariables false
def Acting (w : World) (b cp len : Nat) (i : Value) (wr : World) : Prop :=
  ∃ (j : Nat) (L : List Nat), j ≤ len ∧ i = .int .i64 (j : Int) ∧ L.length ≤ j ∧ A0 w b cp L (j : Int) wr
set_option maxRecDepth 100000 in
set_option maxHeartbeats 4000000 in
theorem walk_short (w : World) (C : Ce w) {a : Option Addr} {len cap : Nat} (F : Nat → Nat → Value) (h : Recs w (.slice a len cap) [.num .i64, .num .u64, .num .u64] len F) (hl : len ≤ 300) :
    Calls Try.prog 3 #[.slice a len cap] w fun e w' => e = .returned (.bool true) ∧ Below w.heap.size w w' := by
  have H := Lib.hid h
  have t0 : decide ((300 : Int) < (len : Int)) = false := decide_eq_false (by omega)
  clear h
  go_enter Try.func3, Try.ntmps3
  go_wp2_with fail
  refine (alive_any _ C).mono ?_; rintro e w1 ⟨rfl, hb⟩
  obtain ⟨b, hbb⟩ : ∃ b, w1.heap.size = b := ⟨_, rfl⟩
  have O0 := Lib.hid (OC.new 26 hb hbb)
  have hsz : (w1.alloc (.cells #[.int .u64 0, .int .u64 0, .int .i64 0] 26)).heap.size = b + 1 := by rw [← hbb]; exact World.size_alloc _ _
  have S0 := Lib.hid (A0.new O0.out hsz)
  clear hb hsz
  go_wp2
  clear hbb t0
  obtain ⟨cp, hcp⟩ : ∃ v, b + 1 = v := ⟨_, rfl⟩
  rw [hcp] at S0 ⊢
  clear hcp
  go_loopw [20] (fun i wr => Acting w b cp len i wr) (fun i _ => len - (intOf i).toNat)
  case atStart => exact ⟨0, [], Nat.zero_le _, rfl, Nat.le_refl _, S0.out⟩
  case round =>
    obtain ⟨j, L, hj, rfl, hLj, ho⟩ := hrel
    have O := Lib.hid ho
    have hbl := ho.oc.below
    clear ho
    by_cases hlt : j < len
    · obtain ⟨b2, off2, k, g, X, rfl, hlat, hk, hg, hX⟩ := act8 H.out hlt
      obtain ⟨c0, c1, c2⟩ := hlat _ hbl
      obtain ⟨bc, hbc⟩ : ∃ v, wr.heap.size = v := ⟨_, rfl⟩
      have ST := Lib.hid (O.out.act #[.int .i64 k, .int .u64 (g : Int), .int .u64 (X : Int)] hbc)
      have hA1 : AskB (j : Int) := ⟨by omega, by omega⟩
      have hA2 : AskB ((j : Int) + 1) := ⟨by omega, by omega⟩
      have hT : TagB L.length := by show L.length ≤ _; omega
      have hL3 : L.length ≤ 1000 := by omega
      have q2 : decide ((j : Int) < (len : Int)) = true := decide_eq_true (by omega)
      have q2' : decide (j < len) = true := decide_eq_true hlt
      have q3 : (0 : Int) ≤ (j : Int) := by omega
      have q4 : (j : Int) < (len : Int) := by omega
      have hfin : Hid (∀ (L' : List Nat) w', L'.length ≤ L.length + 1 → AC w b cp bc #[.int .i64 k, .int .u64 (g : Int), .int .u64 (X : Int)] L' ((j : Int) + 1) L' ((j : Int) + 1) w' → Acting w b cp len (.int .i64 ((j : Int) + 1)) w') := Lib.hid (fun L' w' h1 h2 => by
        have h3 := h2.end
        exact ⟨j + 1, L', by omega, by go_num, by omega, by rw [show (((j + 1 : Nat) : Int)) = (j : Int) + 1 by omega]; exact h3⟩)
      have AS := Lib.hid (fun (L' : List Nat) w' (h : AC w b cp bc #[.int .i64 k, .int .u64 (g : Int), .int .u64 (X : Int)] L' ((j : Int) + 1) L' ((j : Int) + 1) w') => ac_asked C hA2 w' h)
      have SS := Lib.hid (fun w' (h : AC w b cp bc #[.int .i64 k, .int .u64 (g : Int), .int .u64 (X : Int)] L (j : Int) L (j : Int) w') => ac_store C hA1 hT hX w' h)
      have SW := Lib.hid (fun (M : List Nat) (m : Int) w' (h : AC w b cp bc #[.int .i64 k, .int .u64 (g : Int), .int .u64 (X : Int)] L (j : Int) M m w') => ac_swap C hA1 hT hX w' h)
      have SC := Lib.hid (fun (M : List Nat) (m : Int) w' (h : AC w b cp bc #[.int .i64 k, .int .u64 (g : Int), .int .u64 (X : Int)] L (j : Int) M m w') => ac_cas C hA1 hT hg hX w' h)
      have LD := Lib.hid (fun w' (h : AC w b cp bc #[.int .i64 k, .int .u64 (g : Int), .int .u64 (X : Int)] L (j : Int) L (j : Int) w') => ac_load C hA1 w' h)
      have RW := Lib.hid (fun (M : List Nat) (m : Int) w' (h : AC w b cp bc #[.int .i64 k, .int .u64 (g : Int), .int .u64 (X : Int)] M m L (j : Int) w') => ac_rswap hA1 hL3 hX w' h)
      have RC := Lib.hid (fun (M : List Nat) (m : Int) w' (h : AC w b cp bc #[.int .i64 k, .int .u64 (g : Int), .int .u64 (X : Int)] M m L (j : Int) w') => ac_rcas hA1 hL3 hg hX w' h)
      have RL := Lib.hid (fun w' (h : AC w b cp bc #[.int .i64 k, .int .u64 (g : Int), .int .u64 (X : Int)] L ((j : Int) + 1) L (j : Int) w') => ac_rload hA1 w' h)
      have HL1 := Lib.hid (show (L ++ [X]).length ≤ L.length + 1 by simp)
      have HL2 := Lib.hid (casL_len L g X)
      obtain ⟨XL, hXL⟩ : ∃ v, lastW L = v := ⟨_, rfl⟩
      obtain ⟨TL, hTL⟩ : ∃ v, L.length = v := ⟨_, rfl⟩
      obtain ⟨LX, hLX⟩ : ∃ v, L ++ [X] = v := ⟨_, rfl⟩
      obtain ⟨LC, hLC⟩ : ∃ v, casL L g X = v := ⟨_, rfl⟩
      rw [hXL] at SW LD RW RL
      rw [hTL] at SC LD RC RL HL1 HL2 hfin
      rw [hLX] at SS SW RW HL1
      rw [hLC] at SC RC HL2
      obtain ⟨D, hD⟩ : ∃ v, decide (g = TL) = v := ⟨_, rfl⟩
      rw [hD] at SC RC
      have tx : ((XL : Int) != (XL : Int)) = false := by simp
      have tt : ((TL : Int) != (TL : Int)) = false := by simp
      have td : (D != D) = false := by simp
      have tj : ((j : Int) + 1 != (j : Int) + 1) = false := by simp
      have HTL := Lib.hid hTL
      clear hlat hbl hXL hTL hLX hLC hD hT hL3 hLj
      have hkind : (k = 1) ∨ (k = 2) ∨ (k = 3) ∨ (k ≠ 1 ∧ k ≠ 2 ∧ k ≠ 3) := by omega
      rcases hkind with hk1 | hk2 | hk3 | ⟨hk1, hk2, hk3⟩
      · have k1 : (k == 1) = true := by rw [beq_iff_eq]; exact hk1
        clear hk1
        go_wp2_with fail
        refine (SS.out _ ST.out).mono ?_; rintro e w5 ⟨rfl, hs⟩
        have m0 : w5.cell? ⟨bc, 0, none⟩ = some (.int .i64 k) := hs.oa.ac.cell 0
        have m1 : w5.cell? ⟨bc, 1, none⟩ = some (.int .u64 (g : Int)) := hs.oa.ac.cell 1
        have m2 : w5.cell? ⟨bc, 2, none⟩ = some (.int .u64 (X : Int)) := hs.oa.ac.cell 2
        have ST := Lib.hid hs
        clear hs
        clear hbc
        go_wp2_with fail
        refine (RW.out _ _ _ ST.out).mono ?_; rintro e w6 ⟨rfl, hs⟩
        have m0 : w6.cell? ⟨bc, 0, none⟩ = some (.int .i64 k) := hs.oa.ac.cell 0
        have m1 : w6.cell? ⟨bc, 1, none⟩ = some (.int .u64 (g : Int)) := hs.oa.ac.cell 1
        have m2 : w6.cell? ⟨bc, 2, none⟩ = some (.int .u64 (X : Int)) := hs.oa.ac.cell 2
        have ST := Lib.hid hs
        clear hs
        clear m0 m1 m2 SS SW SC LD RW RC RL
        have cm : w6.cell? ⟨cp, 1, none⟩ = some (.int .i64 ((j : Int) + 1)) := ST.out.rc.c1
        go_wp2_with fail
        go_region_held3 (fun w' => w'.cell? ⟨cp, 1, none⟩ = some (.int .i64 ((j : Int) + 1))) (first | go_keep | exact cm)
          (first | (go_at_call 16; (first | (with_reducible refine (AS.out _ _ (ST.out.grew ((Below.refl _ w6).alloc (Nat.le_refl _) _).drew) _ _ _ (Seq.drew (ptr_oneAt w6 _ _ _ rfl)) (by decide) (by decide)).mono ?_) | (with_reducible refine (AS.out _ _ (ST.out.grew ((Below.refl _ w6).drew.alloc (Nat.le_refl _) _)) _ _ _ (ptr_oneAt w6.drew _ _ _ rfl) (by decide) (by decide)).mono ?_) | (with_reducible refine (AS.out _ _ (ST.out.grew ((Below.refl _ w6).alloc (Nat.le_refl _) _)) _ _ _ (ptr_oneAt w6 _ _ _ rfl) (by decide) (by decide)).mono ?_)); rintro e w7 ⟨rfl, hst⟩; have cm : w7.cell? ⟨cp, 1, none⟩ = some (.int .i64 ((j : Int) + 1)) := hst.rc.c1; have ST := Lib.hid hst; clear hst))
        clear cm
        go_wp2
        go_roundw
        case rel => exact hfin.out _ _ HL1.out ST.out
        case measure => simp [intOf]; omega
      · have k1 : (k == 1) = false := by rw [beq_eq_false_iff_ne]; omega
        have k2 : (k == 2) = true := by rw [beq_iff_eq]; exact hk2
        clear hk2
        go_wp2_with fail
        obtain ⟨W1, hW1⟩ : ∃ W1, wr.alloc (.cells #[.int .i64 k, .int .u64 (g : Int), .int .u64 (X : Int)] 32) = W1 := ⟨_, rfl⟩
        rw [hW1] at ST ⊢
        have m1 : W1.cell? ⟨bc, 1, none⟩ = some (.int .u64 (g : Int)) := ST.out.oa.ac.cell 1
        have m2 : W1.cell? ⟨bc, 2, none⟩ = some (.int .u64 (X : Int)) := ST.out.oa.ac.cell 2
        clear hW1 c0 c1 c2
        go_region_held3 (fun w' => w'.cell? ⟨bc, 1, none⟩ = some (.int .u64 (g : Int)) ∧ w'.cell? ⟨bc, 2, none⟩ = some (.int .u64 (X : Int))) (first | go_keep | exact ⟨m1, m2⟩)
          (first
            | (go_at_call 11; (first | (with_reducible refine (SW.out _ _ _ ST.out.drew).mono ?_) | (with_reducible refine (SW.out _ _ _ ST.out).mono ?_)); rintro e w5 ⟨rfl, hst⟩; have m1 : w5.cell? ⟨bc, 1, none⟩ = some (.int .u64 (g : Int)) := hst.oa.ac.cell 1; have m2 : w5.cell? ⟨bc, 2, none⟩ = some (.int .u64 (X : Int)) := hst.oa.ac.cell 2; have ST := Lib.hid hst; clear hst)
            | (go_at_call 10; (first | (with_reducible refine (RW.out _ _ _ ST.out.drew).mono ?_) | (with_reducible refine (RW.out _ _ _ ST.out).mono ?_)); rintro e w6 ⟨rfl, hst⟩; have m1 : w6.cell? ⟨bc, 1, none⟩ = some (.int .u64 (g : Int)) := hst.oa.ac.cell 1; have m2 : w6.cell? ⟨bc, 2, none⟩ = some (.int .u64 (X : Int)) := hst.oa.ac.cell 2; have ST := Lib.hid hst; clear hst))
        clear m1 m2 SS SW SC LD RW RC RL
        clear hbc
        have cm : w6.cell? ⟨cp, 1, none⟩ = some (.int .i64 ((j : Int) + 1)) := ST.out.rc.c1
        go_wp2_with fail
        go_region_held3 (fun w' => w'.cell? ⟨cp, 1, none⟩ = some (.int .i64 ((j : Int) + 1))) (first | go_keep | exact cm)
          (first | (go_at_call 16; (first | (with_reducible refine (AS.out _ _ (ST.out.grew ((Below.refl _ w6).alloc (Nat.le_refl _) _).drew) _ _ _ (Seq.drew (ptr_oneAt w6 _ _ _ rfl)) (by decide) (by decide)).mono ?_) | (with_reducible refine (AS.out _ _ (ST.out.grew ((Below.refl _ w6).drew.alloc (Nat.le_refl _) _)) _ _ _ (ptr_oneAt w6.drew _ _ _ rfl) (by decide) (by decide)).mono ?_) | (with_reducible refine (AS.out _ _ (ST.out.grew ((Below.refl _ w6).alloc (Nat.le_refl _) _)) _ _ _ (ptr_oneAt w6 _ _ _ rfl) (by decide) (by decide)).mono ?_)); rintro e w7 ⟨rfl, hst⟩; have cm : w7.cell? ⟨cp, 1, none⟩ = some (.int .i64 ((j : Int) + 1)) := hst.rc.c1; have ST := Lib.hid hst; clear hst))
        clear cm
        go_wp2
        go_roundw
        case rel => exact hfin.out _ _ HL1.out ST.out
        case measure => simp [intOf]; omega
      · have k1 : (k == 1) = false := by rw [beq_eq_false_iff_ne]; omega
        have k2 : (k == 2) = false := by rw [beq_eq_false_iff_ne]; omega
        have k3 : (k == 3) = true := by rw [beq_iff_eq]; exact hk3
        clear hk3
        go_wp2_with fail
        obtain ⟨W1, hW1⟩ : ∃ W1, wr.alloc (.cells #[.int .i64 k, .int .u64 (g : Int), .int .u64 (X : Int)] 32) = W1 := ⟨_, rfl⟩
        rw [hW1] at ST ⊢
        have m1 : W1.cell? ⟨bc, 1, none⟩ = some (.int .u64 (g : Int)) := ST.out.oa.ac.cell 1
        have m2 : W1.cell? ⟨bc, 2, none⟩ = some (.int .u64 (X : Int)) := ST.out.oa.ac.cell 2
        clear hW1 c0 c1 c2
        go_region_held3 (fun w' => w'.cell? ⟨bc, 1, none⟩ = some (.int .u64 (g : Int)) ∧ w'.cell? ⟨bc, 2, none⟩ = some (.int .u64 (X : Int))) (first | go_keep | exact ⟨m1, m2⟩)
          (first
            | (go_at_call 12; (first | (with_reducible refine (SC.out _ _ _ ST.out.drew).mono ?_) | (with_reducible refine (SC.out _ _ _ ST.out).mono ?_)); rintro e w5 ⟨rfl, hst⟩; have m1 : w5.cell? ⟨bc, 1, none⟩ = some (.int .u64 (g : Int)) := hst.oa.ac.cell 1; have m2 : w5.cell? ⟨bc, 2, none⟩ = some (.int .u64 (X : Int)) := hst.oa.ac.cell 2; have ST := Lib.hid hst; clear hst)
            | (go_at_call 13; (first | (with_reducible refine (RC.out _ _ _ ST.out.drew).mono ?_) | (with_reducible refine (RC.out _ _ _ ST.out).mono ?_)); rintro e w6 ⟨rfl, hst⟩; have m1 : w6.cell? ⟨bc, 1, none⟩ = some (.int .u64 (g : Int)) := hst.oa.ac.cell 1; have m2 : w6.cell? ⟨bc, 2, none⟩ = some (.int .u64 (X : Int)) := hst.oa.ac.cell 2; have ST := Lib.hid hst; clear hst))
        clear m1 m2 SS SW SC LD RW RC RL
        clear hbc
        have cm : w6.cell? ⟨cp, 1, none⟩ = some (.int .i64 ((j : Int) + 1)) := ST.out.rc.c1
        go_wp2_with fail
        go_region_held3 (fun w' => w'.cell? ⟨cp, 1, none⟩ = some (.int .i64 ((j : Int) + 1))) (first | go_keep | exact cm)
          (first | (go_at_call 16; (first | (with_reducible refine (AS.out _ _ (ST.out.grew ((Below.refl _ w6).alloc (Nat.le_refl _) _).drew) _ _ _ (Seq.drew (ptr_oneAt w6 _ _ _ rfl)) (by decide) (by decide)).mono ?_) | (with_reducible refine (AS.out _ _ (ST.out.grew ((Below.refl _ w6).drew.alloc (Nat.le_refl _) _)) _ _ _ (ptr_oneAt w6.drew _ _ _ rfl) (by decide) (by decide)).mono ?_) | (with_reducible refine (AS.out _ _ (ST.out.grew ((Below.refl _ w6).alloc (Nat.le_refl _) _)) _ _ _ (ptr_oneAt w6 _ _ _ rfl) (by decide) (by decide)).mono ?_)); rintro e w7 ⟨rfl, hst⟩; have cm : w7.cell? ⟨cp, 1, none⟩ = some (.int .i64 ((j : Int) + 1)) := hst.rc.c1; have ST := Lib.hid hst; clear hst))
        clear cm
        go_wp2
        go_roundw
        case rel => exact hfin.out _ _ HL2.out ST.out
        case measure => simp [intOf]; omega
      · have k1 : (k == 1) = false := by rw [beq_eq_false_iff_ne]; omega
        have k2 : (k == 2) = false := by rw [beq_eq_false_iff_ne]; omega
        have k3 : (k == 3) = false := by rw [beq_eq_false_iff_ne]; omega
        clear hk1 hk2 hk3
        go_wp2_with fail
        refine (LD.out _ ST.out).mono ?_; rintro e w5 ⟨rfl, hs⟩
        have m0 : w5.cell? ⟨bc, 0, none⟩ = some (.int .i64 k) := hs.oa.ac.cell 0
        have m1 : w5.cell? ⟨bc, 1, none⟩ = some (.int .u64 (g : Int)) := hs.oa.ac.cell 1
        have m2 : w5.cell? ⟨bc, 2, none⟩ = some (.int .u64 (X : Int)) := hs.oa.ac.cell 2
        have ST := Lib.hid hs
        clear hs
        clear hbc
        go_wp2_with fail
        refine (RL.out _ ST.out).mono ?_; rintro e w6 ⟨rfl, hs⟩
        have m0 : w6.cell? ⟨bc, 0, none⟩ = some (.int .i64 k) := hs.oa.ac.cell 0
        have m1 : w6.cell? ⟨bc, 1, none⟩ = some (.int .u64 (g : Int)) := hs.oa.ac.cell 1
        have m2 : w6.cell? ⟨bc, 2, none⟩ = some (.int .u64 (X : Int)) := hs.oa.ac.cell 2
        have ST := Lib.hid hs
        clear hs
        clear m0 m1 m2 SS SW SC LD RW RC RL
        have cm : w6.cell? ⟨cp, 1, none⟩ = some (.int .i64 ((j : Int) + 1)) := ST.out.rc.c1
        go_wp2_with fail
        go_region_held3 (fun w' => w'.cell? ⟨cp, 1, none⟩ = some (.int .i64 ((j : Int) + 1))) (first | go_keep | exact cm)
          (first | (go_at_call 16; (first | (with_reducible refine (AS.out _ _ (ST.out.grew ((Below.refl _ w6).alloc (Nat.le_refl _) _).drew) _ _ _ (Seq.drew (ptr_oneAt w6 _ _ _ rfl)) (by decide) (by decide)).mono ?_) | (with_reducible refine (AS.out _ _ (ST.out.grew ((Below.refl _ w6).drew.alloc (Nat.le_refl _) _)) _ _ _ (ptr_oneAt w6.drew _ _ _ rfl) (by decide) (by decide)).mono ?_) | (with_reducible refine (AS.out _ _ (ST.out.grew ((Below.refl _ w6).alloc (Nat.le_refl _) _)) _ _ _ (ptr_oneAt w6 _ _ _ rfl) (by decide) (by decide)).mono ?_)); rintro e w7 ⟨rfl, hst⟩; have cm : w7.cell? ⟨cp, 1, none⟩ = some (.int .i64 ((j : Int) + 1)) := hst.rc.c1; have ST := Lib.hid hst; clear hst))
        clear cm
        go_wp2
        go_roundw
        case rel => exact hfin.out _ _ (by rw [HTL.out]; exact Nat.le_succ _) ST.out
        case measure => simp [intOf]; omega
    · have q2 : decide ((j : Int) < (len : Int)) = false := decide_eq_false (by omega)
      have q2' : decide (j < len) = false := decide_eq_false hlt
      go_wp2
      go_ret
      exact ⟨rfl, hbl⟩
set_option maxRecDepth 100000 in
theorem walk_of (w : World) (C : Ce w) {a : Option Addr} {n cap : Nat} (len : Nat) (F : Nat → Nat → Value) (h : Recs w (.slice a n cap) [.num .i64, .num .u64, .num .u64] len F) :
    Calls Try.prog 3 #[.slice a n cap] w fun e w' => e = .returned (.bool true) ∧ Below w.heap.size w w' := by
  obtain ⟨rfl, _, _⟩ := h.len
  by_cases hl : n ≤ 300
  · exact walk_short w C F h hl
  · have t0 : decide ((300 : Int) < (n : Int)) = true := decide_eq_true (by omega)
    have t0' : decide (300 < n) = true := decide_eq_true (by omega)
    clear h
    go_enter Try.func3, Try.ntmps3
    go_wp2_with fail
    refine (alive_any _ C).mono ?_; rintro e w1 ⟨rfl, hb⟩
    have B1 := Lib.hid hb
    clear hb
    go_wp2
    go_ret
    exact ⟨rfl, B1.out⟩
end Go.Proofs.Ytgfinibimdgkfaa.cellActs
