/- The program's classes: For, where it plans; all contracts together. -/
import Derived.Test.YthblggnjfmgonaaDoorClassC
namespace Go.Proofs.YthblggnjfmgonaaDoor
open Go.RowKit ClassMath
set_option linter.unusedVariables false

theorem fit_lt {n a c : Nat} (h : fitN n a = some c) : c < 12 := (firstC_some h).1
set_option maxRecDepth 100000 in
set_option maxHeartbeats 1000000 in
theorem for_good {w : World} (L : Lay w) (n a : Nat) (hal : isAl a = true) (hn : n ≤ 1048576) :
    Calls Tryd.prog 20 #[.int .u64 (n : Int), .int .u64 (a : Int)] w fun e w' => e = .returned (.tuple #[plV (forN n a).1, .int .i64 0]) ∧ Below w.heap.size w w' := by
  obtain ⟨ha1, ha2⟩ := isAl_pos hal
  have pq := pow2_at a (by omega)
  have hb := al_p2 a
  rw [hal] at hb
  have hp2 : CalcMath.isP2 a = true := by
    cases h : CalcMath.isP2 a
    · rw [h] at hb; cases hb
    · rfl
  rw [hp2] at pq
  obtain ⟨k, hk⟩ : ∃ k, max n 1 = k := ⟨_, rfl⟩
  have hk1 : 1 ≤ k := by omega
  have hk2 : k ≤ 1048576 := by omega
  have hmax : ∀ w, (Builtin.max_ #[22, 22] 22 #[.int .u64 (n : Int), .int .u64 1]).run Tryd.prog w = .ok (.int .u64 (k : Int)) w := fun w => by
    rw [run_max_int2]
    have : (if (1 : Int) > (n : Int) then (1 : Int) else (n : Int)) = (k : Int) := by split <;> omega
    rw [this]
  have HP := Lib.hid pq
  have HL := Lib.hid L
  have HF := Lib.hid (fun w' (h : Below w.heap.size w w') => first_any (L.below h) k a (by omega) ha1 (by omega))
  have hfor : (forN n a).1 = match fitN k a with
    | some c => ⟨(c : Int), slicesAt c, 0, sizeAt c⟩
    | .none => if k ≤ 15360 then ⟨-1, up k 1024, 0, up k 1024 * 1024⟩ else ⟨-1, 0, up k 16384, up k 16384 * 16384⟩ := by
    unfold forN
    rw [if_pos ⟨hal, hn⟩, hk]
    cases fitN k a with
    | some c => rfl
    | none => simp only []; split <;> rfl
  have t1 : decide ((1024 : Int) < (a : Int)) = false := decide_eq_false (by omega)
  have t2 : decide ((1048576 : Int) < (n : Int)) = false := decide_eq_false (by omega)
  have hU := Lib.hid (units_k k hk2)
  have hV := Lib.hid (units_s k hk2)
  rw [hfor]
  clear hfor pq hb hp2 hk hal
  cases hfit : fitN k a with
  | some c =>
    have hc := fit_lt hfit
    rw [hfit] at HF
    replace HF : Hid (∀ w', Below w.heap.size w w' → Calls Tryd.prog 22 #[.int .u64 (k : Int), .int .u64 (a : Int)] w' fun e w'' => e = .returned (.tuple #[.int .i64 (c : Int), .bool true]) ∧ Below w'.heap.size w' w'') := HF
    have HS := Lib.hid (fun w' (h : Below w.heap.size w w') => slices_ok (L.below h) c hc)
    have HC := Lib.hid (fun w' (h : Below w.heap.size w w') => L.below h c hc)
    obtain ⟨sz, hs⟩ : ∃ x, sizeAt c = x := ⟨_, rfl⟩
    obtain ⟨sl, hl⟩ : ∃ x, slicesAt c = x := ⟨_, rfl⟩
    rw [hs] at HC
    rw [hl] at HS
    simp only [hs, hl]
    have p1 : (0 : Int) ≤ (c : Int) := by omega
    have p2 : (c : Int) < 12 := by omega
    clear hs hl hfit L
    go_enter Tryd.func20, Tryd.ntmps20
    go_wp2_with fail
    refine (HP.out _).mono ?_; rintro e w1 ⟨rfl, hw⟩
    have K1 : Hid (Blk w1 w.heap.size 39 #[.int .i64 0, .int .i64 0, .int .i64 0, .int .u64 0]) := by rw [← hw]; exact Lib.hid (Blk.new _ _ _)
    have B1 := Lib.hid (show Below w.heap.size w w1 by rw [← hw]; exact (Below.refl _ w).alloc (Nat.le_refl _) _)
    have s1 := B1.out.size
    clear hw
    go_wp2_with fail
    refine (HF.out _ B1.out).mono ?_; rintro e w2 ⟨rfl, hb⟩
    have B2 := Lib.hid (B1.out.trans (hb.mono s1))
    have K2 := Lib.hid (K1.out.grew hb)
    have s2 := B2.out.size
    clear hb
    go_wp2_with fail
    refine (HS.out _ B2.out).mono ?_; rintro e w3 ⟨rfl, hb⟩
    have B3 := Lib.hid (B2.out.trans (hb.mono s2))
    have K3 := Lib.hid (K2.out.grew hb)
    clear hb
    have hcell := HC.out _ B3.out
    have f0' := K3.out.frozen 0
    have f1' := K3.out.frozen 1
    have f2' := K3.out.frozen 2
    have f3' := K3.out.frozen 3
    have x0 : w3.cell? ⟨w.heap.size, 0, none⟩ = some (.int .i64 0) := K3.out.cell 0
    have x1 : w3.cell? ⟨w.heap.size, 1, none⟩ = some (.int .i64 0) := K3.out.cell 1
    have x2 : w3.cell? ⟨w.heap.size, 2, none⟩ = some (.int .i64 0) := K3.out.cell 2
    have x3 : w3.cell? ⟨w.heap.size, 3, none⟩ = some (.int .u64 0) := K3.out.cell 3
    go_wp2
    have KB := put4 K3.out (.int .i64 (c : Int)) (.int .i64 (sl : Int)) (.int .i64 0) (.int .u64 (sz : Int))
    have y0 := KB.cell 0
    have y1 := KB.cell 1
    have y2 := KB.cell 2
    have y3 := KB.cell 3
    refine bodyPost_ret (v := .tuple #[plV ⟨(c : Int), sl, 0, sz⟩, .int .i64 0]) ?_ rfl ⟨rfl, below4 B3.out _ _ _ _ (Nat.le_refl _)⟩
    simp [results, Tryd.results20, go_sem, y0, y1, y2, y3, plV]
  | none =>
    rw [hfit] at HF
    replace HF : Hid (∀ w', Below w.heap.size w w' → Calls Tryd.prog 22 #[.int .u64 (k : Int), .int .u64 (a : Int)] w' fun e w'' => e = .returned (.tuple #[.int .i64 0, .bool false]) ∧ Below w'.heap.size w' w'') := HF
    by_cases h15 : k ≤ 15360
    · have t3 : decide ((k : Int) ≤ 15360) = true := decide_eq_true (by omega)
      simp only [if_pos h15]
      obtain ⟨u, hu⟩ : ∃ x, up k 1024 = x := ⟨_, rfl⟩
      rw [hu] at hU ⊢
      obtain ⟨m, hm⟩ : ∃ x, u * 1024 = x := ⟨_, rfl⟩
      rw [hm] at hU ⊢
      clear hfit hu hm L
      go_enter Tryd.func20, Tryd.ntmps20
      go_wp2_with fail
      refine (HP.out _).mono ?_; rintro e w1 ⟨rfl, hw⟩
      have K1 : Hid (Blk w1 w.heap.size 39 #[.int .i64 0, .int .i64 0, .int .i64 0, .int .u64 0]) := by rw [← hw]; exact Lib.hid (Blk.new _ _ _)
      have B1 := Lib.hid (show Below w.heap.size w w1 by rw [← hw]; exact (Below.refl _ w).alloc (Nat.le_refl _) _)
      have s1 := B1.out.size
      clear hw
      go_wp2_with fail
      refine (HF.out _ B1.out).mono ?_; rintro e w2 ⟨rfl, hb⟩
      have B2 := Lib.hid (B1.out.trans (hb.mono s1))
      have K2 := Lib.hid (K1.out.grew hb)
      have s2 := B2.out.size
      clear hb
      go_wp2_with fail
      refine (hU.out _).mono ?_; rintro e w3 ⟨rfl, rfl⟩
      have f0' := K2.out.frozen 0
      have f1' := K2.out.frozen 1
      have f2' := K2.out.frozen 2
      have f3' := K2.out.frozen 3
      have x0 : w2.cell? ⟨w.heap.size, 0, none⟩ = some (.int .i64 0) := K2.out.cell 0
      have x1 : w2.cell? ⟨w.heap.size, 1, none⟩ = some (.int .i64 0) := K2.out.cell 1
      have x2 : w2.cell? ⟨w.heap.size, 2, none⟩ = some (.int .i64 0) := K2.out.cell 2
      have x3 : w2.cell? ⟨w.heap.size, 3, none⟩ = some (.int .u64 0) := K2.out.cell 3
      go_wp2
      have KB := put4 K2.out (.int .i64 (-1)) (.int .i64 (u : Int)) (.int .i64 0) (.int .u64 (m : Int))
      have y0 := KB.cell 0
      have y1 := KB.cell 1
      have y2 := KB.cell 2
      have y3 := KB.cell 3
      refine bodyPost_ret (v := .tuple #[plV ⟨-1, u, 0, m⟩, .int .i64 0]) ?_ rfl ⟨rfl, below4 B2.out _ _ _ _ (Nat.le_refl _)⟩
      simp [results, Tryd.results20, go_sem, y0, y1, y2, y3, plV]
    · have t3 : decide ((k : Int) ≤ 15360) = false := decide_eq_false (by omega)
      simp only [if_neg h15]
      obtain ⟨u, hu⟩ : ∃ x, up k 16384 = x := ⟨_, rfl⟩
      rw [hu] at hV ⊢
      obtain ⟨m, hm⟩ : ∃ x, u * 16384 = x := ⟨_, rfl⟩
      rw [hm] at hV ⊢
      clear hfit hu hm L
      go_enter Tryd.func20, Tryd.ntmps20
      go_wp2_with fail
      refine (HP.out _).mono ?_; rintro e w1 ⟨rfl, hw⟩
      have K1 : Hid (Blk w1 w.heap.size 39 #[.int .i64 0, .int .i64 0, .int .i64 0, .int .u64 0]) := by rw [← hw]; exact Lib.hid (Blk.new _ _ _)
      have B1 := Lib.hid (show Below w.heap.size w w1 by rw [← hw]; exact (Below.refl _ w).alloc (Nat.le_refl _) _)
      have s1 := B1.out.size
      clear hw
      go_wp2_with fail
      refine (HF.out _ B1.out).mono ?_; rintro e w2 ⟨rfl, hb⟩
      have B2 := Lib.hid (B1.out.trans (hb.mono s1))
      have K2 := Lib.hid (K1.out.grew hb)
      have s2 := B2.out.size
      clear hb
      go_wp2_with fail
      refine (hV.out _).mono ?_; rintro e w3 ⟨rfl, rfl⟩
      have f0' := K2.out.frozen 0
      have f1' := K2.out.frozen 1
      have f2' := K2.out.frozen 2
      have f3' := K2.out.frozen 3
      have x0 : w2.cell? ⟨w.heap.size, 0, none⟩ = some (.int .i64 0) := K2.out.cell 0
      have x1 : w2.cell? ⟨w.heap.size, 1, none⟩ = some (.int .i64 0) := K2.out.cell 1
      have x2 : w2.cell? ⟨w.heap.size, 2, none⟩ = some (.int .i64 0) := K2.out.cell 2
      have x3 : w2.cell? ⟨w.heap.size, 3, none⟩ = some (.int .u64 0) := K2.out.cell 3
      go_wp2
      have KB := put4 K2.out (.int .i64 (-1)) (.int .i64 0) (.int .i64 (u : Int)) (.int .u64 (m : Int))
      have y0 := KB.cell 0
      have y1 := KB.cell 1
      have y2 := KB.cell 2
      have y3 := KB.cell 3
      refine bodyPost_ret (v := .tuple #[plV ⟨-1, 0, u, m⟩, .int .i64 0]) ?_ rfl ⟨rfl, below4 B2.out _ _ _ _ (Nat.le_refl _)⟩
      simp [results, Tryd.results20, go_sem, y0, y1, y2, y3, plV]
theorem cl {w : World} (L : Lay w) : Cl w where
  for_ n a hn ha w' hb := by
    by_cases h : isAl a = true ∧ n ≤ 1048576
    · rw [forN_ok h.1 h.2]; exact for_good (L.below hb) n a h.1 h.2
    · rw [forN_bad h]; exact for_bad n a hn ha h
  of_ n hn w' hb := of_any (L.below hb) n hn
  size c hc w' hb := size_ok (L.below hb) c hc
  size_no c hc w' hb := size_no c hc
  slices c hc w' hb := slices_ok (L.below hb) c hc
  slices_no c hc w' hb := slices_no c hc
  blocks c hc w' hb := blocks_ok (L.below hb) c hc
  blocks_no c hc w' hb := blocks_no c hc
end Go.Proofs.YthblggnjfmgonaaDoor
