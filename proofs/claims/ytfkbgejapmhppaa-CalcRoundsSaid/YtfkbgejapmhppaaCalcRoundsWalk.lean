/- CalcRounds: the walk. -/
import Derived.Test.YtfkbgejapmhppaaRef4
namespace Go.Proofs.Ytfkbgejapmhppaa.calcRounds
open Go.RowKit

set_option maxHeartbeats 400000 in
theorem walk (x : Int) (wx : (Lit.int .u64 x).wf = true) (a : Int) (wa : (Lit.int .u64 a).wf = true) (w : World) :
    Calls Try.prog 3 #[.int .u64 x, .int .u64 a] w fun e w' => e = .returned (.bool true) ∧ Below w.heap.size w w' := by
  have bx := u64_bounds wx
  have ba := u64_bounds wa
  obtain ⟨X, rfl⟩ := Int.eq_ofNat_of_zero_le bx.1
  obtain ⟨A, rfl⟩ := Int.eq_ofNat_of_zero_le ba.1
  have hA : A ≤ 18446744073709551615 := by omega
  have hX : X ≤ 18446744073709551615 := by omega
  clear bx ba wx wa
  have hu := up_any X A hX hA
  have hd := down_any X A hX hA
  have ru := rup_any X A hX hA
  have rd := rdown_any X A hX hA
  have p1 : ∀ w, Calls Try.prog 17 #[.int .u64 (X : Int)] w fun e w' => e = .returned (.bool (CalcMath.isP2 X)) ∧ w = w' := fun w => by
    have := pow2_any (X : Int) (by omega) (by omega) w
    rwa [Int.toNat_natCast] at this
  have p2 := rpow2_any X hX
  generalize CalcMath.upV X A = V at *
  generalize CalcMath.upE X A = E at *
  generalize CalcMath.downV X A = V2 at *
  generalize CalcMath.downE X A = E2 at *
  generalize CalcMath.isP2 X = b at *
  have HU := Lib.hid hu; have HD := Lib.hid hd; have RU := Lib.hid ru; have RD := Lib.hid rd; have P1 := Lib.hid p1; have P2 := Lib.hid p2
  clear hu hd ru rd p1 p2
  cases b
  all_goals
    go_enter Try.func3, Try.ntmps3
    go_wp2_with (go_at_call 12; refine (alive_any _).mono ?_; rintro e w1 ⟨rfl, hb⟩)
    refine (HU.out _).mono ?_; rintro e w2 ⟨rfl, rfl⟩
    go_wp2_with fail
    refine (RU.out _).mono ?_; rintro e w2 ⟨rfl, b2⟩
    have bb := hb.trans (b2.mono hb.size)
    go_wp2_with fail
    refine (HD.out _).mono ?_; rintro e w3 ⟨rfl, rfl⟩
    go_wp2_with fail
    refine (RD.out _).mono ?_; rintro e w3 ⟨rfl, b3⟩
    have bw := bb.trans (b3.mono bb.size)
    go_wp2_with fail
    refine (P1.out _).mono ?_; rintro e w4 ⟨rfl, rfl⟩
    go_wp2_with fail
    refine (P2.out _).mono ?_; rintro e w4 ⟨rfl, rfl⟩
    go_wp2
    go_ret
    exact ⟨rfl, bw⟩

end Go.Proofs.Ytfkbgejapmhppaa.calcRounds
