/- The law StackLate, walked (written by gen13.py). -/
import Derived.Test.YtgaecgijmnkdgaaAlive13
import Derived.Test.YtgaecgijmnkdgaaBytesIn
import Derived.Test.YtgaecgijmnkdgaaSame11
import Derived.Test.YtgaecgijmnkdgaaAt13
namespace Go.Proofs.Ytgaecgijmnkdgaa.stackLate
open Go.RowKit StackMath
set_option linter.unusedVariables false

section
variable (a b : Nat)
def lt (a b : Nat) : Nat → SS
  | 0 => s0
  | 1 => pushS s0 b
  | _ => pushS (pushS s0 b) a
def ltP (a b : Nat) : Nat → Nat
  | 0 => b
  | _ => a
/-- Behind the late one's look. -/
def lk (a b : Nat) : SS × MV := stepE (lt a b 2) mPop
def ltQ (a b : Nat) : Nat → SS
  | 0 => (lk a b).1
  | 1 => popS (lk a b).1
  | _ => popS (popS (lk a b).1)
def fin (a b : Nat) : SS := pushS (ltQ a b 2) a
/-- Behind the late one's take. -/
def tk (a b : Nat) : SS × MV := stepE (fin a b) (lk a b).2
end
section
variable {a b : Nat}
theorem lt_one : lt a b 1 = ⟨[b], putB (fun _ => 0) b 0, 1, 2⟩ := by simp [lt, pushS, s0, topW]
theorem lt_two (h : a ≠ b) : lt a b 2 = ⟨[a, b], putB (putB (fun _ => 0) b 0) a (b + 1), 2, 4⟩ := by
  show pushS (pushS s0 b) a = _
  simp [pushS, s0, topW, h]
theorem lk_is (h : a ≠ b) : lk a b = (⟨[a, b], putB (putB (fun _ => 0) b 0) a (b + 1), 2, 5⟩, ⟨false, 0, true, (a : Int), 2, false⟩) := by
  have e : ¬ ((a : Int) = -1) := by omega
  unfold lk
  rw [lt_two h]
  simp [stepE, mPop, lookE, topI, e]
theorem q_is (h : a ≠ b) : (ltQ a b 1).L = [b] ∧ (ltQ a b 1).n = 7 ∧ (ltQ a b 2).L = [] ∧ (ltQ a b 2).n = 9 ∧ (ltQ a b 2).t = 4 := by
  unfold ltQ
  rw [lk_is h]
  simp [popS]
theorem fin_is (h : a ≠ b) : (fin a b).L = [a] ∧ (fin a b).n = 11 ∧ (fin a b).t = 5 := by
  obtain ⟨_, _, h1, h2, h3⟩ := q_is h
  unfold fin pushS
  rw [h1, h2, h3]
  simp
theorem tk_is (h : a ≠ b) : (tk a b).1 = ⟨[a], (fin a b).B, 5, 12⟩ ∧ (tk a b).2 = ⟨false, 0, false, (a : Int), 2, false⟩ := by
  obtain ⟨h1, h2, h3⟩ := fin_is h
  unfold tk
  rw [lk_is h]
  simp [stepE, takeE, h1, h2, h3]
theorem late_ends (h : a ≠ b) : Ends (tk a b).1 (tk a b).2 2 ∧ (aloneE (tk a b).1 (tk a b).2 2).1.L = [] ∧ placeE (aloneE (tk a b).1 (tk a b).2 2).2 = (a : Int) ∧ (aloneE (tk a b).1 (tk a b).2 2).1.n = 14 := by
  obtain ⟨e1, e2⟩ := tk_is h
  have e : ¬ ((a : Int) = -1) := by omega
  rw [e1, e2]
  refine ⟨⟨fun j hj => ?_, ?_⟩, ?_, ?_, ?_⟩
  · rcases (by omega : j = 0 ∨ j = 1) with rfl | rfl
    · rfl
    · simp [aloneE, stepE, lookE, topI, e]
  all_goals simp [aloneE, stepE, lookE, takeE, topI, placeE, e]
end
def PuR (w : World) (s a b : Nat) (i : Value) (wr : World) : Prop := ∃ j : Nat, j ≤ 2 ∧ i = .int .i64 (j : Int) ∧ FS w s (lt a b j) [] wr
def PoR (w : World) (s a b m0 : Nat) (i : Value) (wr : World) : Prop := ∃ j : Nat, j ≤ 2 ∧ i = .int .i64 (j : Int) ∧ FS w s (ltQ a b j) [(m0, (lk a b).2)] wr
set_option maxRecDepth 100000 in
set_option maxHeartbeats 4000000 in
theorem walk_short (w : World) (x y a b : Nat) (hx : x ≤ 255) (hy : y ≤ 255) (hxa : x % 64 = a) (hyb : y % 64 = b) (hab : a ≠ b) :
    Calls Try.prog 7 #[.int .u8 (x : Int), .int .u8 (y : Int)] w fun e w' => e = .returned (.bool true) ∧ Below w.heap.size w w' := by
  obtain ⟨em1, em2⟩ := mod_of hxa
  have em1 : Int.tmod (x : Int) 64 = (a : Int) := em1
  have em2 : (x : Int) % 64 = (a : Int) := em2
  obtain ⟨em3, em4⟩ := mod_of hyb
  have em3 : Int.tmod (y : Int) 64 = (b : Int) := em3
  have em4 : (y : Int) % 64 = (b : Int) := em4
  have ha64 : a < 64 := by omega
  have hb64 : b < 64 := by omega
  have t0 : ((a : Int) == (b : Int)) = false := by rw [beq_eq_false_iff_ne]; omega
  have t0' : (a == b) = false := by rw [beq_eq_false_iff_ne]; exact hab
  have ZS := zero_stack
  have ix0 : ∀ w, (Instr.index 63 (.agg #[.int .i64 (b : Int), .int .i64 (a : Int)]) (.int .i64 0)).run Try.prog w = .ok (.int .i64 (b : Int)) w := fun w => by kernel_rfl
  have ix1 : ∀ w, (Instr.index 63 (.agg #[.int .i64 (b : Int), .int .i64 (a : Int)]) (.int .i64 1)).run Try.prog w = .ok (.int .i64 (a : Int)) w := fun w => by kernel_rfl
  have HAB := Lib.hid hab
  clear hxa hyb
  go_enter Try.func7, Try.ntmps7
  go_wp2_with fail
  refine (alive_any w).mono ?_; rintro e w1 ⟨rfl, hb⟩
  obtain ⟨W, hW, hf, hb2, hs2⟩ := fs_new (w := w) hb
  obtain ⟨s, hss⟩ : ∃ z, w1.heap.size = z := ⟨_, rfl⟩
  rw [hss] at hf
  have I0 := Lib.hid (show PuR w s a b (.int .i64 0) W from ⟨0, by decide, rfl, hf⟩)
  clear hf hb2 hs2 hb
  go_wp2
  go_loopw [38] (fun i wr => PuR w s a b i wr) (fun i _ => 2 - (intOf i).toNat)
  case atStart => exact I0.out
  case round =>
    clear I0 hW hss em1 em2 em3 em4 t0 t0' ZS
    obtain ⟨j, hj, rfl, hf⟩ := hrel
    rcases (by omega : j = 0 ∨ j = 1 ∨ j = 2) with rfl | rfl | rfl
    · show _
      have P := Lib.hid (fs_push hf (p := b) hb64)
      have HM := Lib.hid (show (lt a b 0).n ≤ 1000000 by show (0 : Nat) ≤ 1000000; decide)
      have E := Lib.hid (push_ends (lt a b 0) b)
      clear hf
      go_wp2_with fail
      refine P.out.mono ?_; rintro e w5 ⟨m, rfl, hf, _, _⟩
      have SI := Lib.hid (so_zero hf 2)
      clear hf P
      go_wp2
      go_loopg [] 2 (fun g wr => SoR w s (lt a b 0) [] m (mPush b) w5 2 g wr)
      case atStart => exact SI.out
      case round =>
        clear SI
        obtain ⟨jj, hjj, ha, hw⟩ := hrel
        by_cases hjn : jj < 2
        · have C := Lib.hid (so_next E.out HM.out (by decide) ha hw hjn)
          clear ha hw
          go_wp2_with fail
          refine C.out.mono ?_; rintro e w7 ⟨rfl, hr⟩
          have NX := Lib.hid hr
          clear hr C
          go_wp2
          go_roundg (2 - 1 - jj)
          case measure => omega
          case rel => exact NX.out
        · have C := Lib.hid (so_stop E.out HM.out (by decide) ha hw (by omega : jj = 2))
          clear ha hw
          go_wp2_with fail
          refine C.out.mono ?_; rintro e w8 ⟨rfl, hf, hst⟩
          have h8 : FS w s (lt a b 1) [] w8 := by have := hf.forget; rw [(push_two (lt a b 0) b).2.2.1] at this; exact this
          have NX := Lib.hid (show PuR w s a b (.int .i64 1) w8 from ⟨1, by decide, rfl, h8⟩)
          clear hf hst C h8
          go_wp2
          go_roundw
          case rel => exact NX.out
          case measure => simp [intOf]
    · show _
      have P := Lib.hid (fs_push hf (p := a) ha64)
      have HM := Lib.hid (show (lt a b 1).n ≤ 1000000 by rw [lt_one]; show (2 : Nat) ≤ 1000000; decide)
      have E := Lib.hid (push_ends (lt a b 1) a)
      clear hf
      go_wp2_with fail
      refine P.out.mono ?_; rintro e w5 ⟨m, rfl, hf, _, _⟩
      have SI := Lib.hid (so_zero hf 2)
      clear hf P
      go_wp2
      go_loopg [] 2 (fun g wr => SoR w s (lt a b 1) [] m (mPush a) w5 2 g wr)
      case atStart => exact SI.out
      case round =>
        clear SI
        obtain ⟨jj, hjj, ha, hw⟩ := hrel
        by_cases hjn : jj < 2
        · have C := Lib.hid (so_next E.out HM.out (by decide) ha hw hjn)
          clear ha hw
          go_wp2_with fail
          refine C.out.mono ?_; rintro e w7 ⟨rfl, hr⟩
          have NX := Lib.hid hr
          clear hr C
          go_wp2
          go_roundg (2 - 1 - jj)
          case measure => omega
          case rel => exact NX.out
        · have C := Lib.hid (so_stop E.out HM.out (by decide) ha hw (by omega : jj = 2))
          clear ha hw
          go_wp2_with fail
          refine C.out.mono ?_; rintro e w8 ⟨rfl, hf, hst⟩
          have h8 : FS w s (lt a b 2) [] w8 := by have := hf.forget; rw [(push_two (lt a b 1) a).2.2.1] at this; exact this
          have NX := Lib.hid (show PuR w s a b (.int .i64 2) w8 from ⟨2, by decide, rfl, h8⟩)
          clear hf hst C h8
          go_wp2
          go_roundw
          case rel => exact NX.out
          case measure => simp [intOf]
    · have P := Lib.hid (fs_pop hf)
      clear hf
      go_wp2_with fail
      refine P.out.mono ?_; rintro e w2 ⟨m0, rfl, hf, _, _⟩
      have F := Lib.hid (show FS w s (lt a b 2) [(m0, mPop)] w2 from hf)
      clear hf P
      go_wp2_with fail
      refine (fs_stepB F.out (by show (lt a b 2).n ≤ _; rw [lt_two HAB.out]; show (4 : Nat) ≤ 999999999; decide) (i := 0) (b := true) rfl rfl (S2 := (lk a b).1) (ms2 := [(m0, (lk a b).2)]) rfl rfl).mono ?_; rintro e w4 ⟨rfl, hf, _⟩
      have I2 := Lib.hid (show PoR w s a b m0 (.int .i64 0) w4 from ⟨0, by decide, rfl, hf⟩)
      clear hf F
      go_wp2
      go_loopw [55] (fun i wr => PoR w s a b m0 i wr) (fun i _ => 2 - (intOf i).toNat)
      case atStart => exact I2.out
      case round =>
        clear I2
        obtain ⟨j, hj, rfl, hf⟩ := hrel
        rcases (by omega : j = 0 ∨ j = 1 ∨ j = 2) with rfl | rfl | rfl
        · show _
          have P := Lib.hid (fs_pop hf)
          have HM := Lib.hid (show (ltQ a b 0).n ≤ 1000000 by show (lk a b).1.n ≤ _; rw [lk_is HAB.out]; show (5 : Nat) ≤ 1000000; decide)
          have hl : (ltQ a b 0).L = a :: [b] := by show (lk a b).1.L = _; rw [lk_is HAB.out]
          have E := Lib.hid (pop_ends hl)
          have PT := Lib.hid (pop_two hl).2.2.1
          clear hf hl
          go_wp2_with fail
          refine P.out.mono ?_; rintro e w5 ⟨m, rfl, hf, _, _⟩
          have SI := Lib.hid (so_zero hf 2)
          clear hf P
          go_wp2
          go_loopg [] 2 (fun g wr => SoR w s (ltQ a b 0) [(m0, (lk a b).2)] m mPop w5 2 g wr)
          case atStart => exact SI.out
          case round =>
            clear SI
            obtain ⟨jj, hjj, ha, hw⟩ := hrel
            by_cases hjn : jj < 2
            · have C := Lib.hid (so_next E.out HM.out (by decide) ha hw hjn)
              clear ha hw
              go_wp2_with fail
              refine C.out.mono ?_; rintro e w7 ⟨rfl, hr⟩
              have NX := Lib.hid hr
              clear hr C
              go_wp2
              go_roundg (2 - 1 - jj)
              case measure => omega
              case rel => exact NX.out
            · have C := Lib.hid (so_stop E.out HM.out (by decide) ha hw (by omega : jj = 2))
              clear ha hw
              go_wp2_with fail
              refine C.out.mono ?_; rintro e w8 ⟨rfl, hf, hst⟩
              have h8 : FS w s (ltQ a b 1) [(m0, (lk a b).2)] w8 := by have := hf.front; rw [PT.out] at this; exact this
              have NX := Lib.hid (show PoR w s a b m0 (.int .i64 1) w8 from ⟨1, by decide, rfl, h8⟩)
              clear hf hst C h8
              go_wp2
              go_roundw
              case rel => exact NX.out
              case measure => simp [intOf]
        · show _
          have P := Lib.hid (fs_pop hf)
          have HM := Lib.hid (show (ltQ a b 1).n ≤ 1000000 by rw [(q_is HAB.out).2.1]; decide)
          have hl : (ltQ a b 1).L = b :: [] := (q_is HAB.out).1
          have E := Lib.hid (pop_ends hl)
          have PT := Lib.hid (pop_two hl).2.2.1
          clear hf hl
          go_wp2_with fail
          refine P.out.mono ?_; rintro e w5 ⟨m, rfl, hf, _, _⟩
          have SI := Lib.hid (so_zero hf 2)
          clear hf P
          go_wp2
          go_loopg [] 2 (fun g wr => SoR w s (ltQ a b 1) [(m0, (lk a b).2)] m mPop w5 2 g wr)
          case atStart => exact SI.out
          case round =>
            clear SI
            obtain ⟨jj, hjj, ha, hw⟩ := hrel
            by_cases hjn : jj < 2
            · have C := Lib.hid (so_next E.out HM.out (by decide) ha hw hjn)
              clear ha hw
              go_wp2_with fail
              refine C.out.mono ?_; rintro e w7 ⟨rfl, hr⟩
              have NX := Lib.hid hr
              clear hr C
              go_wp2
              go_roundg (2 - 1 - jj)
              case measure => omega
              case rel => exact NX.out
            · have C := Lib.hid (so_stop E.out HM.out (by decide) ha hw (by omega : jj = 2))
              clear ha hw
              go_wp2_with fail
              refine C.out.mono ?_; rintro e w8 ⟨rfl, hf, hst⟩
              have h8 : FS w s (ltQ a b 2) [(m0, (lk a b).2)] w8 := by have := hf.front; rw [PT.out] at this; exact this
              have NX := Lib.hid (show PoR w s a b m0 (.int .i64 2) w8 from ⟨2, by decide, rfl, h8⟩)
              clear hf hst C h8
              go_wp2
              go_roundw
              case rel => exact NX.out
              case measure => simp [intOf]
        · have P := Lib.hid (fs_push hf (p := a) ha64)
          have HM := Lib.hid (show (ltQ a b 2).n ≤ 1000000 by rw [(q_is HAB.out).2.2.2.1]; decide)
          have E := Lib.hid (push_ends (ltQ a b 2) a)
          clear hf
          go_wp2_with fail
          refine P.out.mono ?_; rintro e w5 ⟨m, rfl, hf, _, _⟩
          have SI := Lib.hid (so_zero hf 2)
          clear hf P
          go_wp2
          go_loopg [] 2 (fun g wr => SoR w s (ltQ a b 2) [(m0, (lk a b).2)] m (mPush a) w5 2 g wr)
          case atStart => exact SI.out
          case round =>
            clear SI
            obtain ⟨jj, hjj, ha, hw⟩ := hrel
            by_cases hjn : jj < 2
            · have C := Lib.hid (so_next E.out HM.out (by decide) ha hw hjn)
              clear ha hw
              go_wp2_with fail
              refine C.out.mono ?_; rintro e w7 ⟨rfl, hr⟩
              have NX := Lib.hid hr
              clear hr C
              go_wp2
              go_roundg (2 - 1 - jj)
              case measure => omega
              case rel => exact NX.out
            · have C := Lib.hid (so_stop E.out HM.out (by decide) ha hw (by omega : jj = 2))
              clear ha hw
              go_wp2_with fail
              refine C.out.mono ?_; rintro e w8 ⟨rfl, hf, hst⟩
              have h8 : FS w s (fin a b) [(m0, (lk a b).2)] w8 := by have := hf.front; rw [(push_two (ltQ a b 2) a).2.2.1] at this; exact this
              have F8 := Lib.hid h8
              clear hf hst C h8 HM
              have lov : (lk a b).2.over = false := by rw [lk_is HAB.out]
              have ST := Lib.hid (fs_stepB F8.out (show (fin a b).n ≤ _ by rw [(fin_is HAB.out).2.1]; decide) (i := 0) (b := true) rfl (by rw [lov]; rfl) (S2 := (tk a b).1) (ms2 := [(m0, (tk a b).2)]) rfl rfl)
              clear lov
              go_wp2_with fail
              refine ST.out.mono ?_; rintro e w9 ⟨rfl, hf, _⟩
              have DN := fs_done hf (i := 0) rfl
              rw [show (tk a b).2.over = false by rw [(tk_is HAB.out).2]] at DN
              have DN := Lib.hid DN
              have AL9 := fs_all hf (show (tk a b).1.n ≤ _ by rw [(tk_is HAB.out).1]; show (12 : Nat) ≤ 999999999; decide)
              rw [show (tk a b).1.L = [a] by rw [(tk_is HAB.out).1]] at AL9
              have AL9 := Lib.hid AL9
              clear hf ST
              go_wp2_with fail
              refine DN.out.mono ?_; rintro e w10 ⟨rfl, k⟩; obtain rfl := k.symm; clear k DN
              go_wp2_with fail
              refine AL9.out.mono ?_; rintro e w10 ⟨a10, c10, rfl, hq, hf, _, hb⟩
              rw [show ([a] : List Nat).length = 1 from rfl] at hq ⊢
              have F10 := Lib.hid hf
              have N1 := Lib.hid (Vec.one13 w10 3 (a : Int))
              have SM := same11_any (w10.alloc (.cells #[.int .i64 (a : Int)] 3)) (hq.alloc _) N1.out.seq (by decide) (by decide)
              rw [decide_eq_true (show toI [a] = [(a : Int)] from rfl)] at SM
              have SM := Lib.hid SM
              clear hf hq hb AL9
              go_wp2_with fail
              refine SM.out.mono ?_; rintro e w11 ⟨rfl, hb⟩
              have f11 := (F10.out.alloc (.cells #[.int .i64 (a : Int)] 3)).grew hb
              have SI := Lib.hid (so_zero (ms := []) f11 2)
              have HM := Lib.hid (show (tk a b).1.n ≤ 1000000 by rw [(tk_is HAB.out).1]; show (12 : Nat) ≤ 1000000; decide)
              have E := Lib.hid (late_ends HAB.out).1
              have LE := Lib.hid (late_ends HAB.out).2
              clear f11 hb SM
              go_wp2
              go_loopg [] 2 (fun g wr => SoR w s (tk a b).1 [] m0 (tk a b).2 w11 2 g wr)
              case atStart => exact SI.out
              case round =>
                clear SI
                obtain ⟨kk, hkk, ha, hw⟩ := hrel
                by_cases hkn : kk < 2
                · have C := Lib.hid (so_next E.out HM.out (by decide) ha hw hkn)
                  clear ha hw
                  go_wp2_with fail
                  refine C.out.mono ?_; rintro e w71 ⟨rfl, hr⟩
                  have NX := Lib.hid hr
                  clear hr C
                  go_wp2
                  go_roundg (2 - 1 - kk)
                  case measure => omega
                  case rel => exact NX.out
                · have C := Lib.hid (so_stop E.out HM.out (by decide) ha hw (by omega : kk = 2))
                  clear ha hw
                  go_wp2_with fail
                  refine C.out.mono ?_; rintro e w81 ⟨rfl, hf, hst⟩
                  have F12 := Lib.hid (show FS w s (aloneE (tk a b).1 (tk a b).2 2).1 [(m0, (aloneE (tk a b).1 (tk a b).2 2).2)] w81 from hf)
                  clear hf hst C
                  have LK := fs_look2 F12.out (show (aloneE (tk a b).1 (tk a b).2 2).1.n ≤ _ by rw [LE.out.2.2]; decide)
                  obtain ⟨R, hR⟩ : ∃ z, (aloneE (tk a b).1 (tk a b).2 2).1 = z := ⟨_, rfl⟩
                  have hL := LE.out.1
                  have hnR := LE.out.2.2
                  rw [hR] at LK hL hnR
                  rw [hL] at LK
                  have LK := Lib.hid LK
                  have HL := Lib.hid (And.intro hL hnR)
                  obtain ⟨tg, htg⟩ : ∃ z, R.t = z := ⟨_, rfl⟩
                  rw [htg] at LK
                  clear htg hL hnR hR F12
                  go_wp2_with fail
                  refine LK.out.mono ?_; rintro e w13 ⟨rfl, hf⟩
                  rw [show topI [] = -1 from rfl]
                  have F13 := Lib.hid hf
                  clear hf LK
                  go_wp2_with fail
                  refine (put_arg w13 (s := s) (o := 0) (p := 70) (i := -1) (t := 0) (.inr (by decide))).mono ?_; rintro e w14 ⟨rfl, k⟩; obtain rfl := k.symm; clear k
                  go_wp2_with fail
                  refine (take_arg w13 (s := s) (o := 0) (i := -1) (t := 0) (.inl (by decide))).mono ?_; rintro e w14 ⟨rfl, k⟩; obtain rfl := k.symm; clear k
                  have PL := fs_place F13.out (i := 0) rfl
                  rw [LE.out.2.1] at PL
                  have PL := Lib.hid PL
                  have AF := fs_all F13.out (show R.n + 1 ≤ _ by rw [HL.out.2]; decide)
                  rw [show ([] : List Nat).length = 0 from rfl] at AF
                  have AF := Lib.hid AF
                  have aa : ((a : Int) == (a : Int)) = true := by simp
                  go_wp2_with fail
                  refine PL.out.mono ?_; rintro e w14 ⟨rfl, k⟩; obtain rfl := k.symm; clear k
                  go_wp2_with fail
                  refine AF.out.mono ?_; rintro e w14 ⟨a14, c14, rfl, _, hf, _, _⟩
                  have B14 := Lib.hid hf.below
                  clear hf
                  go_wp2
                  go_ret
                  exact ⟨rfl, B14.out⟩
theorem walk (w : World) (x : Int) (h1 : (Lit.int .u8 x).wf = true) (y : Int) (h2 : (Lit.int .u8 y).wf = true) :
    Calls Try.prog 7 #[.int .u8 x, .int .u8 y] w fun e w' => e = .returned (.bool true) ∧ Below w.heap.size w w' := by
  have b1 := u8_bd h1
  have b2 := u8_bd h2
  obtain ⟨x, rfl⟩ := Int.eq_ofNat_of_zero_le b1.1
  obtain ⟨y, rfl⟩ := Int.eq_ofNat_of_zero_le b2.1
  obtain ⟨a, ha⟩ : ∃ a, x % 64 = a := ⟨_, rfl⟩
  obtain ⟨b, hb⟩ : ∃ b, y % 64 = b := ⟨_, rfl⟩
  have hx : x ≤ 255 := by omega
  have hy : y ≤ 255 := by omega
  clear b1 b2 h1 h2
  by_cases hab : a = b
  · obtain ⟨em1, em2⟩ := mod_of ha
    have em1 : Int.tmod (x : Int) 64 = (a : Int) := em1
    have em2 : (x : Int) % 64 = (a : Int) := em2
    obtain ⟨em3, em4⟩ := mod_of hb
    have em3 : Int.tmod (y : Int) 64 = (b : Int) := em3
    have em4 : (y : Int) % 64 = (b : Int) := em4
    have t0 : ((a : Int) == (b : Int)) = true := by rw [beq_iff_eq]; omega
    have t0' : (a == b) = true := by rw [beq_iff_eq]; exact hab
    clear ha hb hab
    go_enter Try.func7, Try.ntmps7
    go_wp2_with fail
    refine (alive_any w).mono ?_; rintro e w1 ⟨rfl, hb⟩
    have B1 := Lib.hid hb
    clear hb
    go_wp2
    go_ret
    exact ⟨rfl, B1.out⟩
  · exact walk_short w x y a b hx hy ha hb hab
end Go.Proofs.Ytgaecgijmnkdgaa.stackLate
