/- The laws' Same: two rows of blocks. -/
import Derived.Test.YtclmdjkihijciaaLedMath3
import Derived.BigQuiet
namespace Go.Proofs.Ytclmdjkihijciaa
open Go.RowKit LedMath
set_option linter.unusedVariables false

def SameR (w : World) (la lb : List (Nat × Nat × Nat)) (i : Value) (wr : World) : Prop :=
  ∃ j : Nat, j ≤ la.length ∧ i = .int .i64 (j : Int) ∧ la.take j = lb.take j ∧ Below w.heap.size w wr
theorem take_eq {α : Type} {la lb : List α} (h : la.length = lb.length) {j : Nat} {x : α} (h1 : la.take j = lb.take j) (ha : la[j]? = some x) (hb : lb[j]? = some x) : la.take (j + 1) = lb.take (j + 1) := by
  rw [List.take_add_one, List.take_add_one, h1, ha, hb]
set_option maxHeartbeats 2000000 in
theorem same15 (w : World) {a b : Option Addr} {n m c d : Nat} {la lb : List (Nat × Nat × Nat)} (ha : Seq Elem.blks w (.slice a n c) la) (hb : Seq Elem.blks w (.slice b m d) lb) (hn : n ≤ 1048576) (hm : m ≤ 1048576) :
    Calls Try.prog 7 #[.slice a n c, .slice b m d] w fun e w' => e = .returned (.bool (decide (la = lb))) ∧ Below w.heap.size w w' := by
  obtain rfl := ha.len
  obtain rfl := hb.len
  by_cases hl : la.length = lb.length
  · obtain ⟨n, hN⟩ : ∃ n, la.length = n := ⟨_, rfl⟩
    have HA := Lib.hid ha; have HB := Lib.hid hb; have HL := Lib.hid hl
    have HN := Lib.hid hN
    have I0 := Lib.hid (show SameR w la lb (.int .i64 0) w from ⟨0, Nat.zero_le _, rfl, rfl, Below.refl _ _⟩)
    rw [← hl] at HB ⊢
    rw [hN] at hn HA HB ⊢
    clear ha hb hm hl hN
    go_enter Try.func7, Try.ntmps7
    go_wp2
    go_loopw [13] (fun i wr => SameR w la lb i wr) (fun i _ => n - (intOf i).toNat)
    case atStart => exact I0.out
    case round =>
      clear I0
      obtain ⟨j, hj, rfl, ht, hbl⟩ := hrel
      rw [HN.out] at hj
      have TT := Lib.hid ht
      by_cases hjn : j < n
      · have t2 : decide (j < n) = true := decide_eq_true hjn
        have t2' : decide ((j : Int) < (n : Int)) = true := decide_eq_true (by omega)
        obtain ⟨x, hx⟩ : ∃ x, la[j]? = some x := ⟨_, List.getElem?_eq_getElem (by rw [HN.out]; exact hjn)⟩
        obtain ⟨y, hy⟩ : ∃ y, lb[j]? = some y := ⟨_, List.getElem?_eq_getElem (by rw [← HL.out, HN.out]; exact hjn)⟩
        obtain ⟨b1, o1, e1, p0, p1, p2⟩ := (HA.out.below (Nat.le_refl _) hbl).blk hx
        obtain ⟨b2, o2, e2, r0, r1, r2⟩ := (HB.out.below (Nat.le_refl _) hbl).blk hy
        subst e1 e2
        have HX := Lib.hid hx; have HY := Lib.hid hy
        have B := Lib.hid hbl
        have q3 : (0 : Int) ≤ (j : Int) := by omega
        have q4 : (j : Int) < (n : Int) := by omega
        obtain ⟨x1, x2, x3⟩ := x
        obtain ⟨y1, y2, y3⟩ := y
        simp only at p0 p1 p2 r0 r1 r2
        clear hx hy hbl ht
        by_cases h1 : x1 = y1
        · subst h1
          by_cases h2 : x2 = y2
          · subst h2
            by_cases h3 : x3 = y3
            · subst h3
              have FIN := Lib.hid (take_eq HL.out TT.out HX.out HY.out)
              go_wp2
              go_quiet (fail)
              go_wp2
              go_roundw
              case rel => exact ⟨j + 1, by rw [HN.out]; omega, by go_num, FIN.out, below_drewN B.out _⟩
              case measure => simp [intOf] <;> omega
            · have FIN := Lib.hid (show decide (la = lb) = false from decide_eq_false fun e => by
                have := HX.out; rw [e, HY.out] at this; injection this with this; injection this with _ this; injection this with _ this; exact h3 this.symm)
              have q5 : ¬ ((x3 : Int) = (y3 : Int)) := by omega
              clear h3
              go_wp2
              go_quiet (fail)
              go_wp2
              go_ret
              exact ⟨by rw [FIN.out]; rfl, below_drewN B.out _⟩
          · have FIN := Lib.hid (show decide (la = lb) = false from decide_eq_false fun e => by
              have := HX.out; rw [e, HY.out] at this; injection this with this; injection this with _ this; injection this with this _; exact h2 this.symm)
            have q5 : ¬ ((x2 : Int) = (y2 : Int)) := by omega
            clear h2
            go_wp2
            go_quiet (fail)
            go_wp2
            go_ret
            exact ⟨by rw [FIN.out]; rfl, below_drewN B.out _⟩
        · have FIN := Lib.hid (show decide (la = lb) = false from decide_eq_false fun e => by
            have := HX.out; rw [e, HY.out] at this; injection this with this; injection this with this _; exact h1 this.symm)
          have q5 : ¬ ((x1 : Int) = (y1 : Int)) := by omega
          clear h1
          go_wp2
          go_quiet (fail)
          go_wp2
          go_ret
          exact ⟨by rw [FIN.out]; rfl, below_drewN B.out _⟩
      · obtain rfl : j = n := by omega
        have t2 : decide (j < j) = false := decide_eq_false hjn
        have t2' : decide ((j : Int) < (j : Int)) = false := decide_eq_false (by omega)
        have FIN := Lib.hid (show decide (la = lb) = true from decide_eq_true (by
          have := TT.out
          rw [List.take_of_length_le (by rw [HN.out]; exact Nat.le_refl _), List.take_of_length_le (by rw [← HL.out, HN.out]; exact Nat.le_refl _)] at this
          exact this))
        have B := Lib.hid hbl
        clear hbl ht hjn
        go_wp2_with fail
        go_ret
        exact ⟨by rw [FIN.out]; rfl, B.out⟩
  · have FIN := Lib.hid (show decide (la = lb) = false from decide_eq_false fun e => hl (by rw [e]))
    have q1 : ¬ ((la.length : Int) = (lb.length : Int)) := by omega
    obtain ⟨n, hN⟩ : ∃ n, la.length = n := ⟨_, rfl⟩
    obtain ⟨m, hM⟩ : ∃ m, lb.length = m := ⟨_, rfl⟩
    rw [hN, hM] at q1 ⊢
    clear ha hb hl hN hM
    go_enter Try.func7, Try.ntmps7
    go_wp2
    go_ret
    exact ⟨by rw [FIN.out]; rfl, Below.refl _ _⟩
end Go.Proofs.Ytclmdjkihijciaa
