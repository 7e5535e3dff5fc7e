/- The program's geo: In, how two runs compare: contracts. -/
import Derived.Test.YtlnlipjnljbegaaGeoB
import Derived.Test.YtlnlipjnljbegaaMeetMath
namespace Go.Proofs.Ytlnlipjnljbegaa
open Go.RowKit GeoMath
set_option linter.unusedVariables false

theorem ret_b {a b : Bool} (h : a = b) : Ending.returned (.bool a) = .returned (.bool b) := by rw [h]
def Ining (w : World) (b : Nat) (t : TypeId) (f s m k : Nat) (l : List Nat) (i : Value) (wr : World) : Prop :=
  ∃ j : Nat, j ≤ k ∧ i = .int .i64 (j : Int) ∧ (l.take j).all (fun a => hits f s (m : Int) a) = true ∧ OneRun w b t f s (m : Int) wr
theorem all_take_succ {l : List Nat} {j x : Nat} {p : Nat → Bool} (h : l[j]? = some x) : (l.take (j + 1)).all p = ((l.take j).all p && p x) := by
  rw [List.take_add_one, List.all_append, h]; simp
theorem not_all_of {l : List Nat} {j x : Nat} {p : Nat → Bool} (h : l[j]? = some x) (hp : p x = false) : l.all p = false := by
  rw [Bool.eq_false_iff]
  intro h2
  have := List.all_eq_true.1 h2 x (List.mem_of_getElem? h)
  rw [hp] at this; cases this
set_option maxHeartbeats 2000000 in
theorem code_in (w : World) (f s : Nat) (n : Int) (hf : U64B f) (hs : U64B s) (hn : I64B n) (a : Option Addr) (k cap : Nat) (l : List Nat) (hl : Seq Elem.u64s w (.slice a k cap) l) (hk : k ≤ 300) (hb : ∀ x ∈ l, U64B x) :
    Calls Try.prog 35 #[runV f s n, .slice a k cap] w fun e w' => e = .returned (.bool (inN f s n l)) ∧ Below w.heap.size w w' := by
  have HM := Lib.hid (fun w => code_may w f s n hf hs hn)
  have HH := Lib.hid (fun w a ha hm => code_has w f s n a hf hs hn ha hm)
  obtain ⟨n1, n2⟩ := hn
  unfold runV at HM HH ⊢
  cases hm : mayN f s n with
  | false =>
    have e1 : inN f s n l = false := by unfold inN; rw [hm]; rfl
    rw [e1]
    rw [hm] at HM
    clear e1 hm HH hl hb
    go_enter Try.func35, Try.ntmps35
    go_wp2_with fail
    refine (HM.out _).mono ?_; rintro e w1 ⟨rfl, hb⟩
    have B1 := Lib.hid (below_then ((Below.refl _ w).alloc (Nat.le_refl _) _) (by simp) hb)
    clear hb
    go_wp2
    go_ret
    exact ⟨rfl, B1.out⟩
  | true =>
    rw [hm] at HM
    obtain ⟨m, rfl, h1, h2, h3, h4, h5⟩ := may_true hm
    have e1 : inN f s (m : Int) l = l.all (fun a => hits f s (m : Int) a) := by unfold inN; rw [hm]; rfl
    rw [e1]
    have HKL := Lib.hid hl.len
    have HT := Lib.hid (fun w a ha => HH.out w a ha hm)
    have HL := Lib.hid hl; have HB := Lib.hid hb
    clear HH e1 hm h5 hl hb
    go_enter Try.func35, Try.ntmps35
    go_wp2_with fail
    generalize hW : w.alloc (.cells #[.int .u64 (f : Int), .int .u64 (s : Int), .int .i64 (m : Int)] 34) = W
    have ST := Lib.hid (run_boxed w 34 f s (m : Int) hW)
    obtain ⟨bb, hbb⟩ : ∃ bb, w.heap.size = bb := ⟨_, rfl⟩
    rw [hbb] at ST
    clear hW
    refine (HM.out _).mono ?_; rintro e w1 ⟨rfl, hb⟩
    have ST := Lib.hid (ST.out.grew hb)
    clear hb
    go_wp2
    go_loopw [12] (fun i wr => Ining w bb 34 f s m k l i wr) (fun i _ => k - (intOf i).toNat)
    case atStart => exact ⟨0, Nat.zero_le _, rfl, by simp, ST.out⟩
    case round =>
      obtain ⟨j, hj, rfl, hall, hone⟩ := hrel
      have R := Lib.hid hone; have HA := Lib.hid hall
      clear hone hall
      by_cases hjk : j < k
      · obtain ⟨x, hx⟩ : ∃ x, l[j]? = some x := ⟨l[j]'(by rw [← HKL.out]; exact hjk), List.getElem?_eq_getElem _⟩
        obtain ⟨b2, off2, rfl, hcell⟩ := (HL.out.below (Nat.le_refl _) R.out.below).elem hx
        have hxb := HB.out x (List.mem_of_getElem? hx)
        have HX := Lib.hid hx
        have d0 : wr.cell? ⟨b2, off2 + j, none⟩ = some (.int .u64 (x : Int)) := by
          have := hcell 0 _ rfl
          simpa [Elem.u64s] using this
        obtain ⟨r0, r1, r2⟩ := R.out.cells
        have q2 : decide ((j : Int) < (k : Int)) = true := decide_eq_true (by omega)
        have q3 : (0 : Int) ≤ (j : Int) := by omega
        have q4 : (j : Int) < (k : Int) := by omega
        have HTx := Lib.hid (fun w => HT.out w x hxb)
        clear hcell hx
        cases hh : hits f s (m : Int) x with
        | true =>
          rw [hh] at HTx
          have HHH := Lib.hid hh
          clear hh
          go_wp2_with fail
          refine (HTx.out _).mono ?_; rintro e w2 ⟨rfl, hb⟩
          have R2 := Lib.hid (R.out.grew hb)
          clear hb d0 r0 r1 r2
          go_wp2
          go_roundw
          case rel => exact ⟨j + 1, by omega, by go_num, by rw [all_take_succ HX.out, HA.out, HHH.out]; rfl, R2.out⟩
          case measure => simp [intOf]; omega
        | false =>
          rw [hh] at HTx
          have HHH := Lib.hid hh
          clear hh
          go_wp2_with fail
          refine (HTx.out _).mono ?_; rintro e w2 ⟨rfl, hb⟩
          have R2 := Lib.hid (R.out.grew hb)
          clear hb d0 r0 r1 r2
          go_wp2
          go_ret
          exact ⟨ret_b (a := false) (not_all_of HX.out HHH.out).symm, R2.out.below⟩
      · obtain rfl : j = k := by omega
        have q2 : decide ((j : Int) < (j : Int)) = false := decide_eq_false (by omega)
        go_wp2
        go_ret
        exact ⟨ret_b (a := true) (by have := HA.out; rw [HKL.out, List.take_length] at this; exact this.symm), R.out.below⟩
end Go.Proofs.Ytlnlipjnljbegaa
