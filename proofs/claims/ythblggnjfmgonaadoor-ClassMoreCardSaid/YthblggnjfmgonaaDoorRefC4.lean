/- The document's own classes (allotmentref05): For, where it answers a plan: contract. -/
import Derived.Test.YthblggnjfmgonaaDoorRefC3
namespace Go.Proofs.YthblggnjfmgonaaDoor
open Go.RowKit ClassMath
set_option linter.unusedVariables false

/-- What stands in the fourth cell. -/
def usedAt (w : World) (bp : Nat) : Nat := match w.cell? ⟨bp, 3, none⟩ with | some (.int _ x) => x.toNat | _ => 0
def AddingSlices (w w2 : World) (bp m : Nat) (wr : World) : Prop :=
  ∃ k U : Nat, U = k * 1024 ∧ U < m + 1024 ∧ Blk wr bp 42 #[.int .i64 (-1), .int .i64 (k : Int), .int .i64 0, .int .u64 (U : Int)] ∧ Blk wr w.heap.size 42 #[.int .i64 0, .int .i64 0, .int .i64 0, .int .u64 0] ∧ Below w.heap.size w wr
def AddingSegs (w w2 : World) (bp m : Nat) (wr : World) : Prop :=
  ∃ k U : Nat, U = k * 16384 ∧ U < m + 16384 ∧ Blk wr bp 42 #[.int .i64 (-1), .int .i64 0, .int .i64 (k : Int), .int .u64 (U : Int)] ∧ Blk wr w.heap.size 42 #[.int .i64 0, .int .i64 0, .int .i64 0, .int .u64 0] ∧ Below w.heap.size w wr
set_option maxRecDepth 100000 in
set_option maxHeartbeats 4000000 in
theorem ref_for_good (w : World) (n a : Nat) (hal : isAl a = true) (hn2 : n ≤ 1048576) :
    Calls Tryd.prog 21 #[.int .u64 (n : Int), .int .u64 (a : Int)] w fun e w' => e = .returned (.tuple #[plV (forN n a).1, .int .i64 0]) ∧ Below w.heap.size w w' := by
  have HAL := Lib.hid hal
  have ha1 := (isAl_pos hal).1
  have ha2 := (isAl_pos hal).2
  go_enter Tryd.func21, Tryd.ntmps21
  go_wp2
  go_loopw [6, 7] (fun ok p wr => Powers w a ok p wr) (fun ok p _ => 4096 - (intOf p).toNat)
  case atStart => exact ⟨0, 1, by omega, rfl, rfl, rfl, Blk.new w _ _, (Below.refl _ w).alloc (Nat.le_refl _) _⟩
  case round =>
    obtain ⟨i, q, hi, hq, rfl, rfl, hbk, hbl⟩ := hrel
    have K := Lib.hid hbk; have B := Lib.hid hbl
    have HQ := Lib.hid hq
    have hq1 : 1 ≤ q := by rw [hq]; exact Nat.one_le_two_pow
    have hq2 : q ≤ 2048 := by rw [hq]; exact Nat.le_trans (Nat.pow_le_pow_right (show 0 < 2 by decide) hi) (by decide)
    have hq3 : i < 11 ↔ q ≤ 1024 := by
      rw [hq]
      constructor
      · intro h; exact Nat.le_trans (Nat.pow_le_pow_right (show 0 < 2 by decide) (show i ≤ 10 by omega)) (by decide)
      · intro h
        rcases Nat.lt_or_ge i 11 with x | x
        · exact x
        · have := Nat.pow_le_pow_right (show 0 < 2 by decide) x
          omega
    have hst := isTo_step a i
    rw [← hq] at hst
    clear hbk hbl hq
    by_cases hlt : q ≤ 1024
    · have t1 : decide ((q : Int) ≤ 1024) = true := decide_eq_true (by omega)
      have hi2 : i < 11 := hq3.2 hlt
      obtain ⟨c0, hc0⟩ : ∃ c0, isTo a i = c0 := ⟨_, rfl⟩
      rw [hc0] at hst ⊢
      obtain ⟨d0, hd0⟩ : ∃ d0, decide (q = a) = d0 := ⟨_, rfl⟩
      rw [hd0] at hst
      have t2 : ((q : Int) == (a : Int)) = d0 := by rw [← hd0, Bool.eq_iff_iff, beq_iff_eq, decide_eq_true_iff]; omega
      have HS := Lib.hid hst
      have HQ2 : Hid (q * 2 = 2 ^ (i + 1)) := Lib.hid (by rw [HQ.out, Nat.pow_succ])
      clear hst hc0 hd0 hq3 hlt
      cases c0 with
      | true =>
        clear t2
        go_wp2
        go_roundw
        case rel => exact ⟨i + 1, q * 2, by omega, HQ2.out, by rw [HS.out]; rfl, by go_num, K.out, B.out⟩
        case measure => simp [intOf]; omega
      | false =>
        go_wp2
        go_roundw
        case rel => exact ⟨i + 1, q * 2, by omega, HQ2.out, by rw [HS.out]; rfl, by go_num, K.out, B.out⟩
        case measure => simp [intOf]; omega
    · have t1 : decide ((q : Int) ≤ 1024) = false := decide_eq_false (by omega)
      obtain rfl : i = 11 := by omega
      rw [isTo_all]
      clear hst hq3 hlt
      rw [hal]
      have t3 : decide ((1048576 : Int) < (n : Int)) = false := decide_eq_false (by omega)
      obtain ⟨m, hm⟩ : ∃ m, max n 1 = m := ⟨_, rfl⟩
      have hm1 : 1 ≤ m := by omega
      have hm2 : m ≤ 1048576 := by omega
      have hmax : ∀ w, (Builtin.max_ #[22, 22] 22 #[.int .u64 (n : Int), .int .u64 1]).run Tryd.prog w = .ok (.int .u64 (m : Int)) w := fun w => by
        rw [run_max_int2]
        have : (if (1 : Int) > (n : Int) then (1 : Int) else (n : Int)) = (m : Int) := by split <;> omega
        rw [this]
      have HM := Lib.hid hm
      clear hm
      go_wp2_with fail
      refine (ref_sizes _).mono ?_; rintro e w2 ⟨g, rfl, hz, hg, hb⟩
      have Z := Lib.hid hz
      have K2 : Hid (Blk w2 w.heap.size 42 #[.int .i64 0, .int .i64 0, .int .i64 0, .int .u64 0]) := Lib.hid (K.out.upd (updFalse_of hb) id)
      have B2 := Lib.hid (B.out.trans (hb.mono B.out.size))
      clear hz hg hb hmax t3
      go_wp2
      go_loop [33] (fun i => ∃ c : Nat, c ≤ 12 ∧ i = .int .i64 (c : Int) ∧ ∀ d, d < c → decide (m ≤ sizeAt d ∧ sizeAt d % a = 0) = false) (fun i => 12 - (intOf i).toNat)
      case atStart => exact ⟨0, by omega, rfl, fun d hd => by omega⟩
      case round =>
        obtain ⟨c, hc, rfl, hno⟩ := hrel
        have NO := Lib.hid hno
        clear hno
        by_cases hlt : c < 12
        · have hcell := Z.out.cell hlt
          obtain ⟨b1, b2⟩ := size_bounds hlt
          have HSL := Lib.hid (fun w => ref_slices w c hlt)
          obtain ⟨s, hss⟩ : ∃ s, sizeAt c = s := ⟨_, rfl⟩
          have HSS := Lib.hid hss
          rw [hss] at hcell b1 b2
          clear hss
          have hmod : Int.tmod (s : Int) (a : Int) = ((s % a : Nat) : Int) := (Int.ofNat_tmod _ _).symm
          obtain ⟨r, hr⟩ : ∃ r, s % a = r := ⟨_, rfl⟩
          have hrb : r ≤ 1024 := by have := Nat.mod_le s a; omega
          rw [hr] at hmod
          have HR := Lib.hid hr
          clear hr
          by_cases hs : m ≤ s
          · have t4 : decide (m ≤ s) = true := decide_eq_true hs
            by_cases hr0 : r = 0
            · have t5 : ((r : Int) == 0) = true := by rw [beq_iff_eq]; omega
              have hfit : fitN m a = some c := firstC_of hlt (by rw [HSS.out]; exact decide_eq_true ⟨hs, HR.out.trans hr0⟩) NO.out
              have FOR2 : Hid (forN n a = (⟨(c : Int), slicesAt c, 0, s⟩, 0)) := Lib.hid (by unfold forN; rw [if_pos ⟨HAL.out, hn2⟩, HM.out, hfit]; simp only [HSS.out])
              obtain ⟨x, hx⟩ : ∃ x, slicesAt c = x := ⟨_, rfl⟩
              rw [hx] at HSL FOR2
              clear hs hr0 hfit hx
              go_wp2_with fail
              refine (HSL.out _).mono ?_; rintro e w6 ⟨rfl, hb⟩
              have K5 : Hid (Blk w6 w.heap.size 42 #[.int .i64 0, .int .i64 0, .int .i64 0, .int .u64 0]) := Lib.hid (K2.out.upd (updFalse_of hb) id)
              have B5 := Lib.hid (B2.out.trans (hb.mono B2.out.size))
              have f0' := K5.out.frozen 0
              have f1' := K5.out.frozen 1
              have f2' := K5.out.frozen 2
              have f3' := K5.out.frozen 3
              have x0 := K5.out.cell 0
              have x1 := K5.out.cell 1
              have x2 := K5.out.cell 2
              have x3 := K5.out.cell 3
              simp only [List.getElem?_toArray, List.getElem?_cons_succ, List.getElem?_cons_zero] at x0 x1 x2 x3
              clear hb HSL
              go_wp2
              have HP := FOR2
              have KB := put4 K5.out (.int .i64 (c : Int)) (.int .i64 (x : Int)) (.int .i64 0) (.int .u64 (s : Int))
              have y0 := KB.cell 0
              have y1 := KB.cell 1
              have y2 := KB.cell 2
              have y3 := KB.cell 3
              refine bodyPost_ret (v := .tuple #[plV ⟨(c : Int), x, 0, s⟩, .int .i64 0]) ?_ rfl ⟨by rw [HP.out], below4 B5.out _ _ _ _ (Nat.le_refl _)⟩
              simp [results, Tryd.results21, go_sem, y0, y1, y2, y3, plV]
            · have t5 : ((r : Int) == 0) = false := by rw [beq_eq_false_iff_ne]; omega
              have hf : decide (m ≤ sizeAt c ∧ sizeAt c % a = 0) = false := decide_eq_false (fun x => hr0 (by rw [← HR.out, ← HSS.out]; exact x.2))
              have HF := Lib.hid hf
              clear hs hr0 hf
              go_wp2
              go_round
              case rel => exact ⟨c + 1, by omega, by go_num, fun d hd => by
                rcases Nat.lt_or_ge d c with h | h
                · exact NO.out d h
                · obtain rfl : d = c := by omega
                  exact HF.out⟩
              case measure => simp [intOf]; omega
          · have t4 : decide (m ≤ s) = false := decide_eq_false hs
            have hf : decide (m ≤ sizeAt c ∧ sizeAt c % a = 0) = false := decide_eq_false (fun x => hs (by rw [← HSS.out]; exact x.1))
            have HF := Lib.hid hf
            clear hs hf hmod
            go_wp2
            go_round
            case rel => exact ⟨c + 1, by omega, by go_num, fun d hd => by
              rcases Nat.lt_or_ge d c with h | h
              · exact NO.out d h
              · obtain rfl : d = c := by omega
                exact HF.out⟩
            case measure => simp [intOf]; omega
        · obtain rfl : c = 12 := by omega
          have hfit : fitN m a = .none := firstC_no NO.out
          obtain ⟨bp, hbp⟩ : ∃ bp, w2.heap.size = bp := ⟨_, rfl⟩
          have hbp1 : w.heap.size < bp := by have := K2.out.lt; omega
          have BP : Hid (Blk (w2.alloc (.cells #[.int .i64 (-1), .int .i64 0, .int .i64 0, .int .u64 0] 42)) bp 42 #[.int .i64 (-1), .int .i64 ((0 : Nat) : Int), .int .i64 ((0 : Nat) : Int), .int .u64 ((0 : Nat) : Int)]) := Lib.hid (by rw [← hbp]; exact Blk.new w2 _ _)
          by_cases hbig : m ≤ 15360
          · have t4 : decide ((15360 : Int) < (m : Int)) = false := decide_eq_false (by omega)
            have FOR : Hid (forN n a = (⟨-1, up m 1024, 0, up m 1024 * 1024⟩, 0)) := Lib.hid (by unfold forN; rw [if_pos ⟨HAL.out, hn2⟩, HM.out, hfit]; simp only; rw [if_pos hbig])
            clear hfit
            go_wp2
            go_loopw [56] (fun _ wr => AddingSlices w w2 bp m wr) (fun _ wr => m - usedAt wr bp)
            case atStart => exact ⟨0, 0, by omega, by omega, BP.out, K2.out.alloc _, B2.out.alloc B2.out.size _⟩
            case round =>
              obtain ⟨k, U, hU, hUm, hbp, hbk, hbl⟩ := hrel
              have P5 := Lib.hid hbp; have K5 := Lib.hid hbk; have B5 := Lib.hid hbl
              have hused : usedAt wr bp = U := by unfold usedAt; rw [Blk.cell (cs := #[.int .i64 (-1), .int .i64 (k : Int), .int .i64 0, .int .u64 (U : Int)]) hbp 3]; simp
              have z1 : wr.cell? ⟨bp, 1, none⟩ = some (.int .i64 (k : Int)) := Blk.cell (cs := #[.int .i64 (-1), .int .i64 (k : Int), .int .i64 0, .int .u64 (U : Int)]) hbp 1
              have z2 : wr.cell? ⟨bp, 2, none⟩ = some (.int .i64 0) := Blk.cell (cs := #[.int .i64 (-1), .int .i64 (k : Int), .int .i64 0, .int .u64 (U : Int)]) hbp 2
              have z3 : wr.cell? ⟨bp, 3, none⟩ = some (.int .u64 (U : Int)) := Blk.cell (cs := #[.int .i64 (-1), .int .i64 (k : Int), .int .i64 0, .int .u64 (U : Int)]) hbp 3
              have z0 : wr.cell? ⟨bp, 0, none⟩ = some (.int .i64 (-1)) := Blk.cell (cs := #[.int .i64 (-1), .int .i64 (k : Int), .int .i64 0, .int .u64 (U : Int)]) hbp 0
              have g1 : wr.frozen? ⟨bp, 1, none⟩ = false := hbp.frozen 1
              have g2 : wr.frozen? ⟨bp, 2, none⟩ = false := hbp.frozen 2
              have g3 : wr.frozen? ⟨bp, 3, none⟩ = false := hbp.frozen 3
              have HU := Lib.hid hused
              have HUE := Lib.hid hU
              have hk : k ≤ 2000 := by omega
              clear hbp hbk hbl hused hU
              by_cases hlt : U < m
              · have t5 : decide (U < m) = true := decide_eq_true hlt
                clear z0
                go_wp2
                go_roundw
                case rel =>
                  refine ⟨k + 1, U + 1024, by have := HUE.out; omega, by omega, ?_, ?_, ?_⟩
                  · have := (P5.out.put 3 (.int .u64 ((U : Int) + 1024))).put 1 (.int .i64 ((k : Int) + 1))
                    simpa using this
                  · exact (K5.out.far (p := ⟨bp, 3, none⟩) (by simp only; omega) _).far (p := ⟨bp, 1, none⟩) (by simp only; omega) _
                  · exact (B5.out.setCell (p := ⟨bp, 3, none⟩) (by simp only; omega) _).setCell (p := ⟨bp, 1, none⟩) (by simp only; omega) _
                case measure =>
                  rw [HU.out]
                  have : usedAt ((wr.setCell ⟨bp, 3, none⟩ (.int .u64 ((U : Int) + 1024))).setCell ⟨bp, 1, none⟩ (.int .i64 ((k : Int) + 1))) bp = U + 1024 := by
                    have := (P5.out.put 3 (.int .u64 ((U : Int) + 1024))).put 1 (.int .i64 ((k : Int) + 1))
                    unfold usedAt
                    rw [this.cell 3]
                    simp
                    omega
                  rw [this]; omega
              · have t5 : decide (U < m) = false := decide_eq_false hlt
                obtain rfl : k = up m 1024 := by have := HUE.out; unfold up; omega
                have f0' := K5.out.frozen 0
                have f1' := K5.out.frozen 1
                have f2' := K5.out.frozen 2
                have f3' := K5.out.frozen 3
                have x0 := K5.out.cell 0
                have x1 := K5.out.cell 1
                have x2 := K5.out.cell 2
                have x3 := K5.out.cell 3
                simp only [List.getElem?_toArray, List.getElem?_cons_succ, List.getElem?_cons_zero] at x0 x1 x2 x3
                clear g1 g2 g3 hlt
                go_wp2
                have HP : Hid (forN n a = (⟨-1, up m 1024, 0, U⟩, 0)) := Lib.hid (by rw [FOR.out, HUE.out])
                have KB := put4 K5.out (.int .i64 (-1)) (.int .i64 ((up m 1024 : Nat) : Int)) (.int .i64 0) (.int .u64 (U : Int))
                have y0 := KB.cell 0
                have y1 := KB.cell 1
                have y2 := KB.cell 2
                have y3 := KB.cell 3
                refine bodyPost_ret (v := .tuple #[plV ⟨-1, up m 1024, 0, U⟩, .int .i64 0]) ?_ rfl ⟨by rw [HP.out], below4 B5.out _ _ _ _ (Nat.le_refl _)⟩
                simp [results, Tryd.results21, go_sem, y0, y1, y2, y3, plV]
          · have t4 : decide ((15360 : Int) < (m : Int)) = true := decide_eq_true (by omega)
            have FOR : Hid (forN n a = (⟨-1, 0, up m 16384, up m 16384 * 16384⟩, 0)) := Lib.hid (by unfold forN; rw [if_pos ⟨HAL.out, hn2⟩, HM.out, hfit]; simp only; rw [if_neg hbig])
            clear hfit
            go_wp2
            go_loopw [56] (fun _ wr => AddingSegs w w2 bp m wr) (fun _ wr => m - usedAt wr bp)
            case atStart => exact ⟨0, 0, by omega, by omega, BP.out, K2.out.alloc _, B2.out.alloc B2.out.size _⟩
            case round =>
              obtain ⟨k, U, hU, hUm, hbp, hbk, hbl⟩ := hrel
              have P5 := Lib.hid hbp; have K5 := Lib.hid hbk; have B5 := Lib.hid hbl
              have hused : usedAt wr bp = U := by unfold usedAt; rw [Blk.cell (cs := #[.int .i64 (-1), .int .i64 0, .int .i64 (k : Int), .int .u64 (U : Int)]) hbp 3]; simp
              have z1 : wr.cell? ⟨bp, 1, none⟩ = some (.int .i64 0) := Blk.cell (cs := #[.int .i64 (-1), .int .i64 0, .int .i64 (k : Int), .int .u64 (U : Int)]) hbp 1
              have z2 : wr.cell? ⟨bp, 2, none⟩ = some (.int .i64 (k : Int)) := Blk.cell (cs := #[.int .i64 (-1), .int .i64 0, .int .i64 (k : Int), .int .u64 (U : Int)]) hbp 2
              have z3 : wr.cell? ⟨bp, 3, none⟩ = some (.int .u64 (U : Int)) := Blk.cell (cs := #[.int .i64 (-1), .int .i64 0, .int .i64 (k : Int), .int .u64 (U : Int)]) hbp 3
              have z0 : wr.cell? ⟨bp, 0, none⟩ = some (.int .i64 (-1)) := Blk.cell (cs := #[.int .i64 (-1), .int .i64 0, .int .i64 (k : Int), .int .u64 (U : Int)]) hbp 0
              have g1 : wr.frozen? ⟨bp, 1, none⟩ = false := hbp.frozen 1
              have g2 : wr.frozen? ⟨bp, 2, none⟩ = false := hbp.frozen 2
              have g3 : wr.frozen? ⟨bp, 3, none⟩ = false := hbp.frozen 3
              have HU := Lib.hid hused
              have HUE := Lib.hid hU
              have hk : k ≤ 2000 := by omega
              clear hbp hbk hbl hused hU
              by_cases hlt : U < m
              · have t5 : decide (U < m) = true := decide_eq_true hlt
                clear z0
                go_wp2
                go_roundw
                case rel =>
                  refine ⟨k + 1, U + 16384, by have := HUE.out; omega, by omega, ?_, ?_, ?_⟩
                  · have := (P5.out.put 3 (.int .u64 ((U : Int) + 16384))).put 2 (.int .i64 ((k : Int) + 1))
                    simpa using this
                  · exact (K5.out.far (p := ⟨bp, 3, none⟩) (by simp only; omega) _).far (p := ⟨bp, 2, none⟩) (by simp only; omega) _
                  · exact (B5.out.setCell (p := ⟨bp, 3, none⟩) (by simp only; omega) _).setCell (p := ⟨bp, 2, none⟩) (by simp only; omega) _
                case measure =>
                  rw [HU.out]
                  have : usedAt ((wr.setCell ⟨bp, 3, none⟩ (.int .u64 ((U : Int) + 16384))).setCell ⟨bp, 2, none⟩ (.int .i64 ((k : Int) + 1))) bp = U + 16384 := by
                    have := (P5.out.put 3 (.int .u64 ((U : Int) + 16384))).put 2 (.int .i64 ((k : Int) + 1))
                    unfold usedAt
                    rw [this.cell 3]
                    simp
                    omega
                  rw [this]; omega
              · have t5 : decide (U < m) = false := decide_eq_false hlt
                obtain rfl : k = up m 16384 := by have := HUE.out; unfold up; omega
                have f0' := K5.out.frozen 0
                have f1' := K5.out.frozen 1
                have f2' := K5.out.frozen 2
                have f3' := K5.out.frozen 3
                have x0 := K5.out.cell 0
                have x1 := K5.out.cell 1
                have x2 := K5.out.cell 2
                have x3 := K5.out.cell 3
                simp only [List.getElem?_toArray, List.getElem?_cons_succ, List.getElem?_cons_zero] at x0 x1 x2 x3
                clear g1 g2 g3 hlt
                go_wp2
                have HP : Hid (forN n a = (⟨-1, 0, up m 16384, U⟩, 0)) := Lib.hid (by rw [FOR.out, HUE.out])
                have KB := put4 K5.out (.int .i64 (-1)) (.int .i64 0) (.int .i64 ((up m 16384 : Nat) : Int)) (.int .u64 (U : Int))
                have y0 := KB.cell 0
                have y1 := KB.cell 1
                have y2 := KB.cell 2
                have y3 := KB.cell 3
                refine bodyPost_ret (v := .tuple #[plV ⟨-1, 0, up m 16384, U⟩, .int .i64 0]) ?_ rfl ⟨by rw [HP.out], below4 B5.out _ _ _ _ (Nat.le_refl _)⟩
                simp [results, Tryd.results21, go_sem, y0, y1, y2, y3, plV]

theorem ref_for (w : World) (n a : Nat) (hn : n ≤ 18446744073709551615) (ha : a ≤ 18446744073709551615) :
    Calls Tryd.prog 21 #[.int .u64 (n : Int), .int .u64 (a : Int)] w fun e w' => e = .returned (.tuple #[plV (forN n a).1, .int .i64 (forN n a).2]) ∧ Below w.heap.size w w' := by
  by_cases h : isAl a = true ∧ n ≤ 1048576
  · have e : (forN n a).2 = 0 := by
      unfold forN
      rw [if_pos h]
      split
      · rfl
      · split <;> rfl
    rw [e]
    exact ref_for_good w n a h.1 h.2
  · have e : forN n a = (Pl.none, 2) := by unfold forN; rw [if_neg h]
    rw [e]
    exact ref_for_bad w n a hn ha h
end Go.Proofs.YthblggnjfmgonaaDoor
