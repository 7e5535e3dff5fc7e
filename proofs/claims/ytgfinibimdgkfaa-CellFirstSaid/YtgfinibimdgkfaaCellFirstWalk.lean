/- The law CellFirst, walked. -/
import Derived.Test.YtgfinibimdgkfaaCellSwapsWalk
namespace Go.Proofs.Ytgfinibimdgkfaa.cellFirst
open Go.RowKit
set_option linter.unusedVariables false
/-- Behind j tries: the first one went. -/
def Firsts (w : World) (b nn f t1 t2 : Nat) (L : List Nat) (i : Value) (wr : World) : Prop :=
  ∃ (j x t : Nat), j ≤ nn ∧ i = .int .i64 (j : Int) ∧ ((j = 0 ∧ x = f ∧ t = t1) ∨ (0 < j ∧ x = L.getD 0 0 ∧ t = t2)) ∧ OC w b x t (2 + (j : Int)) wr
def Lates (w : World) (b nn f t3 : Nat) (i : Value) (wr : World) : Prop :=
  ∃ j : Nat, j ≤ nn ∧ i = .int .i64 (j : Int) ∧ OC w b f t3 (4 + (j : Int)) wr
set_option maxRecDepth 100000 in
set_option maxHeartbeats 4000000 in
theorem walk_first (w : World) (C : Ce w) (f : Nat) (hf : f ≤ 18446744073709551615) {a : Option Addr} {nn cap : Nat} (L : List Nat) (hs : nn ≤ 100) (hle : ∀ j, j < nn → L.getD j 0 ≤ 18446744073709551615) (hcell : ∀ w', Below w.heap.size w w' → ∀ j, j < nn → ∃ b off, a = some ⟨b, off, none⟩ ∧ w'.cell? ⟨b, off + j, none⟩ = some (.int .u64 ((L.getD j 0 : Nat) : Int))) :
    Calls Try.prog 4 #[.int .u64 (f : Int), .slice a nn cap, .bool false] w fun e w' => e = .returned (.bool true) ∧ Below w.heap.size w w' := by
  have HLE := Lib.hid hle; have HC := Lib.hid hcell
  have t0 : decide ((100 : Int) < (nn : Int)) = false := decide_eq_false (by omega)
  obtain ⟨t1, ht1⟩ : ∃ t, 0 + 1 = t := ⟨_, rfl⟩
  obtain ⟨t2, ht2⟩ : ∃ t, t1 + 1 = t := ⟨_, rfl⟩
  have S1 := Lib.hid (fun b w' (h : OC w b 0 0 0 w') => oc_store C (by decide) (by decide) hf w' h)
  rw [ht1] at S1
  have S2 := Lib.hid (fun b w' (h : OC w b f t1 (0 + 1) w') => oc_load C (by decide) w' h)
  have h12 : t1 < t2 := by omega
  have h1v : t1 = 1 := by omega
  have h2v : t2 = 2 := by omega
  have HT2 := Lib.hid ht2; have H1V := Lib.hid h1v; have H2V := Lib.hid h2v
  clear hle hcell ht1 ht2 h1v h2v
  go_enter Try.func4, Try.ntmps4
  go_wp2_with fail
  refine (alive_any _ C).mono ?_; rintro e w1 ⟨rfl, hb⟩
  obtain ⟨b, hbb⟩ : ∃ b, w1.heap.size = b := ⟨_, rfl⟩
  have O0 := Lib.hid (OC.new 26 hb hbb)
  clear hb
  go_wp2_with fail
  refine (S1.out _ _ O0.out).mono ?_; rintro e w2 ⟨rfl, h⟩
  have O1 := Lib.hid h
  clear h hbb
  go_wp2_with fail
  refine (S2.out _ _ O1.out).mono ?_; rintro e w3 ⟨rfl, h⟩
  have O2 := Lib.hid h
  clear h t0
  go_wp2
  go_loopw [34] (fun i wr => Firsts w b nn f t1 t2 L i wr) (fun i _ => nn - (intOf i).toNat)
  case atStart => exact ⟨0, f, t1, Nat.zero_le _, rfl, Or.inl ⟨rfl, rfl, rfl⟩, O2.out⟩
  case round =>
    obtain ⟨j, x, t, hj, rfl, hc, ho⟩ := hrel
    have O := Lib.hid ho
    have hbl := ho.below
    have HCC := Lib.hid hc
    clear ho
    by_cases hjl : j < nn
    · obtain ⟨b2, off2, rfl, d0⟩ := HC.out wr hbl j hjl
      have hy := HLE.out j hjl
      obtain ⟨y, hy'⟩ : ∃ y, L.getD j 0 = y := ⟨_, rfl⟩
      rw [hy'] at d0 hy
      have HY := Lib.hid hy'
      have tb1 : t ≤ 1000000000 := by have := H1V.out; have := H2V.out; rcases hc with ⟨_, _, rfl⟩ | ⟨_, _, rfl⟩ <;> omega
      have CS := Lib.hid (fun w' (h : OC w b x t (2 + (j : Int)) w') => oc_cas C ⟨by omega, by omega⟩ tb1 (g := t1) (y := y) (by omega) hy w' h)
      have q2 : decide ((j : Int) < (nn : Int)) = true := decide_eq_true (by omega)
      have q2' : decide (j < nn) = true := decide_eq_true hjl
      have q3 : (0 : Int) ≤ (j : Int) := by omega
      have q4 : (j : Int) < (nn : Int) := by omega
      have e5 : 2 + (j : Int) + 1 = 2 + ((j + 1 : Nat) : Int) := by omega
      have E5 := Lib.hid e5
      clear hy' hbl e5
      rcases hc with ⟨hj0, hxf, htt⟩ | ⟨hj0, hxl, htt⟩
      · have tj : ((j : Int) == 0) = true := by rw [beq_iff_eq]; omega
        rw [decide_eq_true htt.symm, if_pos htt.symm, if_pos htt.symm, E5.out] at CS
        have hr : Hid (∀ w', OC w b y (t + 1) (2 + ((j + 1 : Nat) : Int)) w' → Firsts w b nn f t1 t2 L (.int .i64 ((j : Int) + 1)) w') := Lib.hid (fun w' h => ⟨j + 1, y, t + 1, by omega, by go_num, Or.inr ⟨by omega, by rw [← HY.out, hj0], by rw [← HT2.out, htt]⟩, h⟩)
        clear hj0 hxf htt
        go_wp2_with fail
        refine (CS.out _ O.out).mono ?_; rintro e w5 ⟨rfl, h5⟩
        have O5 := Lib.hid h5
        clear h5
        go_wp2
        go_roundw
        case rel => exact hr.out _ O5.out
        case measure => simp [intOf]; omega
      · have tj : ((j : Int) == 0) = false := by rw [beq_eq_false_iff_ne]; omega
        have hne : ¬ t1 = t := by omega
        rw [decide_eq_false hne, if_neg hne, if_neg hne, E5.out] at CS
        have hr : Hid (∀ w', OC w b x t (2 + ((j + 1 : Nat) : Int)) w' → Firsts w b nn f t1 t2 L (.int .i64 ((j : Int) + 1)) w') := Lib.hid (fun w' h => ⟨j + 1, x, t, by omega, by go_num, Or.inr ⟨by omega, hxl, htt⟩, h⟩)
        clear hxl htt hne
        go_wp2_with fail
        refine (CS.out _ O.out).mono ?_; rintro e w5 ⟨rfl, h5⟩
        have O5 := Lib.hid h5
        clear h5
        go_wp2
        go_roundw
        case rel => exact hr.out _ O5.out
        case measure => simp [intOf]; omega
    · obtain rfl : j = nn := by omega
      have q2 : decide ((j : Int) < (j : Int)) = false := decide_eq_false (by omega)
      have LD := Lib.hid (fun w' (h : OC w b x t (2 + (j : Int)) w') => oc_load C ⟨by omega, by omega⟩ w' h)
      have tx : ((x : Int) == (x : Int)) = true := by simp
      have hge : decide ((t1 : Int) ≤ (t : Int)) = true := decide_eq_true (by rcases hc with ⟨_, _, h⟩ | ⟨_, _, h⟩ <;> omega)
      have hge' : decide (t1 ≤ t) = true := decide_eq_true (by rcases hc with ⟨_, _, h⟩ | ⟨_, _, h⟩ <;> omega)
      rcases hc with ⟨hj0, hxf, htt⟩ | ⟨hj0, hxl, htt⟩
      · have q5 : decide ((0 : Int) < (j : Int)) = false := decide_eq_false (by omega)
        have q5' : decide (0 < j) = false := decide_eq_false (by omega)
        have txf : ((x : Int) == (f : Int)) = true := by rw [beq_iff_eq]; omega
        clear hj0 hxf htt hbl
        go_wp2_with fail
        refine (LD.out _ O.out).mono ?_; rintro e w5 ⟨rfl, h5⟩
        have O5 := Lib.hid h5
        clear h5
        go_wp2
        go_ret
        exact ⟨by simp, O5.out.below⟩
      · have q5 : decide ((0 : Int) < (j : Int)) = true := decide_eq_true (by omega)
        have q5' : decide (0 < j) = true := decide_eq_true hj0
        have q6 : (0 : Int) < (j : Int) := by omega
        have HX := Lib.hid hxl
        clear hxl htt
        go_wp2_with fail
        refine (LD.out _ O.out).mono ?_; rintro e w5 ⟨rfl, h5⟩
        have O5 := Lib.hid h5
        obtain ⟨b2, off2, rfl, d0⟩ := HC.out w5 h5.below 0 hj0
        rw [← HX.out, Nat.add_zero] at d0
        clear h5 hj0 hbl
        go_wp2
        go_ret
        exact ⟨by simp, O5.out.below⟩
set_option maxRecDepth 100000 in
set_option maxHeartbeats 4000000 in
theorem walk_back (w : World) (C : Ce w) (f : Nat) (hf : f ≤ 18446744073709551615) {a : Option Addr} {nn cap : Nat} (L : List Nat) (hs : nn ≤ 100) (hle : ∀ j, j < nn → L.getD j 0 ≤ 18446744073709551615) (hcell : ∀ w', Below w.heap.size w w' → ∀ j, j < nn → ∃ b off, a = some ⟨b, off, none⟩ ∧ w'.cell? ⟨b, off + j, none⟩ = some (.int .u64 ((L.getD j 0 : Nat) : Int))) :
    Calls Try.prog 4 #[.int .u64 (f : Int), .slice a nn cap, .bool true] w fun e w' => e = .returned (.bool true) ∧ Below w.heap.size w w' := by
  have HLE := Lib.hid hle; have HC := Lib.hid hcell
  have t0 : decide ((100 : Int) < (nn : Int)) = false := decide_eq_false (by omega)
  obtain ⟨f1, hf1⟩ : ∃ v, (f + 1) % 18446744073709551616 = v := ⟨_, rfl⟩
  have hf1b : f1 ≤ 18446744073709551615 := by omega
  have wf : IntKind.u64.wrap ((f : Int) + 1) = (f1 : Int) := by simp [IntKind.wrap, IntKind.bits, IntKind.signed]; omega
  obtain ⟨t1, ht1⟩ : ∃ t, 0 + 1 = t := ⟨_, rfl⟩
  obtain ⟨t3, ht3⟩ : ∃ t, t1 + 1 + 1 = t := ⟨_, rfl⟩
  have S1 := Lib.hid (fun b w' (h : OC w b 0 0 0 w') => oc_store C (by decide) (by decide) hf w' h)
  rw [ht1] at S1
  have S2 := Lib.hid (fun b w' (h : OC w b f t1 (0 + 1) w') => oc_load C (by decide) w' h)
  have S3 := Lib.hid (fun b w' (h : OC w b f t1 (0 + 1 + 1) w') => oc_store C (by decide) (by show t1 ≤ _; omega) hf1b w' h)
  have S4 := Lib.hid (fun b w' (h : OC w b f1 (t1 + 1) (0 + 1 + 1 + 1) w') => oc_store C (by decide) (by show t1 + 1 ≤ _; omega) hf w' h)
  rw [ht3] at S4
  have hne : ¬ t1 = t3 := by omega
  have hge : decide ((t1 : Int) ≤ (t3 : Int)) = true := decide_eq_true (by omega)
  have hge' : decide (t1 ≤ t3) = true := decide_eq_true (by omega)
  have ht3b : t3 ≤ 1000 := by omega
  have ht1b : t1 ≤ 1000 := by omega
  have HNE := Lib.hid hne
  clear hle hcell ht1 ht3 hf1 hne
  go_enter Try.func4, Try.ntmps4
  go_wp2_with fail
  refine (alive_any _ C).mono ?_; rintro e w1 ⟨rfl, hb⟩
  obtain ⟨b, hbb⟩ : ∃ b, w1.heap.size = b := ⟨_, rfl⟩
  have O0 := Lib.hid (OC.new 26 hb hbb)
  clear hb
  go_wp2_with fail
  refine (S1.out _ _ O0.out).mono ?_; rintro e w2 ⟨rfl, h⟩
  have O1 := Lib.hid h
  clear h hbb
  go_wp2_with fail
  refine (S2.out _ _ O1.out).mono ?_; rintro e w3 ⟨rfl, h⟩
  have O2 := Lib.hid h
  clear h t0
  go_wp2_with fail
  refine (S3.out _ _ O2.out).mono ?_; rintro e w4 ⟨rfl, h⟩
  have O3 := Lib.hid h
  clear h wf
  go_wp2_with fail
  refine (S4.out _ _ O3.out).mono ?_; rintro e w5 ⟨rfl, h⟩
  have O4 := Lib.hid (show OC w b f t3 (4 + ((0 : Nat) : Int)) w5 from h)
  clear h
  go_wp2
  go_loopw [34] (fun i wr => Lates w b nn f t3 i wr) (fun i _ => nn - (intOf i).toNat)
  case atStart => exact ⟨0, Nat.zero_le _, rfl, O4.out⟩
  case round =>
    obtain ⟨j, hj, rfl, ho⟩ := hrel
    have O := Lib.hid ho
    have hbl := ho.below
    clear ho
    by_cases hjl : j < nn
    · obtain ⟨b2, off2, rfl, d0⟩ := HC.out wr hbl j hjl
      have hy := HLE.out j hjl
      obtain ⟨y, hy'⟩ : ∃ y, L.getD j 0 = y := ⟨_, rfl⟩
      rw [hy'] at d0 hy
      have CS := Lib.hid (fun w' (h : OC w b f t3 (4 + (j : Int)) w') => oc_cas C ⟨by omega, by omega⟩ (by show t3 ≤ _; omega) (g := t1) (y := y) (by omega) hy w' h)
      have E5 := Lib.hid (show 4 + (j : Int) + 1 = 4 + ((j + 1 : Nat) : Int) by omega)
      rw [decide_eq_false HNE.out, if_neg HNE.out, if_neg HNE.out, E5.out] at CS
      have q2 : decide ((j : Int) < (nn : Int)) = true := decide_eq_true (by omega)
      have q2' : decide (j < nn) = true := decide_eq_true hjl
      have q3 : (0 : Int) ≤ (j : Int) := by omega
      have q4 : (j : Int) < (nn : Int) := by omega
      have hr : Hid (∀ w', OC w b f t3 (4 + ((j + 1 : Nat) : Int)) w' → Lates w b nn f t3 (.int .i64 ((j : Int) + 1)) w') := Lib.hid (fun w' h => ⟨j + 1, by omega, by go_num, h⟩)
      obtain ⟨z, hz⟩ : ∃ z, ((j : Int) == 0) = z := ⟨_, rfl⟩
      clear hy' hbl
      cases z
      all_goals
        go_wp2_with fail
        refine (CS.out _ O.out).mono ?_; rintro e w5 ⟨rfl, h5⟩
        have O5 := Lib.hid h5
        clear h5
        go_wp2
        go_roundw
        case rel => exact hr.out _ O5.out
        case measure => simp [intOf]; omega
    · obtain rfl : j = nn := by omega
      have q2 : decide ((j : Int) < (j : Int)) = false := decide_eq_false (by omega)
      have LD := Lib.hid (fun w' (h : OC w b f t3 (4 + (j : Int)) w') => oc_load C ⟨by omega, by omega⟩ w' h)
      have tx : ((f : Int) == (f : Int)) = true := by simp
      obtain ⟨z, hz⟩ : ∃ z, decide ((0 : Int) < (j : Int)) = z := ⟨_, rfl⟩
      have hz' : decide (0 < j) = z := by rw [← hz, Bool.eq_iff_iff, decide_eq_true_iff, decide_eq_true_iff]; omega
      clear hbl
      cases z
      all_goals
        go_wp2_with fail
        refine (LD.out _ O.out).mono ?_; rintro e w5 ⟨rfl, h5⟩
        have O5 := Lib.hid h5
        clear h5
        go_wp2
        go_ret
        exact ⟨by simp, O5.out.below⟩
set_option maxRecDepth 100000 in
theorem walk_of (w : World) (C : Ce w) (f : Int) (hf : (Lit.int .u64 f).wf = true) {a : Option Addr} {nn cap : Nat} (l : List Int) (h : NumsAt w .u64 (.slice a nn cap) l) (back : Bool) :
    Calls Try.prog 4 #[.int .u64 f, .slice a nn cap, .bool back] w fun e w' => e = .returned (.bool true) ∧ Below w.heap.size w w' := by
  obtain ⟨ef, hfb⟩ := u64_bd2 hf
  rw [ef]
  obtain ⟨L, hn, hnc, hcm, hle, hcell⟩ := h.u64In
  by_cases hbig : nn ≤ 100
  · cases back
    · exact walk_first w C _ hfb L hbig hle hcell
    · exact walk_back w C _ hfb L hbig hle hcell
  · have t0 : decide ((100 : Int) < (nn : Int)) = true := decide_eq_true (by omega)
    have t0' : decide (100 < nn) = true := decide_eq_true (by omega)
    clear h hn hle hcell ef
    go_enter Try.func4, Try.ntmps4
    go_wp2_with fail
    refine (alive_any _ C).mono ?_; rintro e w1 ⟨rfl, hb⟩
    have B1 := Lib.hid hb
    clear hb
    go_wp2
    go_ret
    exact ⟨rfl, B1.out⟩
end Go.Proofs.Ytgfinibimdgkfaa.cellFirst
