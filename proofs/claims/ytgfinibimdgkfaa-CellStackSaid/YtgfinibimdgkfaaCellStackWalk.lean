/- The law CellStack, walked (written by genstack.py). -/
import Derived.Test.YtgfinibimdgkfaaCellActs8
import Derived.Test.YtgfinibimdgkfaaReads
import Derived.Deep.RegionHeld3
import Derived.IntWalk
namespace Go.Proofs.Ytgfinibimdgkfaa.cellStack
open Go.RowKit
set_option linter.unusedVariables false
def rowS (g0 : Nat) (l0 : Bool) (d0 g1 : Nat) (l1 : Bool) (d1 : Nat) : Array Value := #[.int .u64 (g0 : Int), .int .u64 (g0 : Int), .bool l0, .int .i64 (d0 : Int), .int .u64 (g1 : Int), .int .u64 (g1 : Int), .bool l1, .int .i64 (d1 : Int)]
/-- The cell, whose word is its tag, beside the block of the two. -/
structure ST (w : World) (b tb : Nat) (ty : TypeId) (n : Int) (x : Nat) (cs : Array Value) (w' : World) : Prop where
  oc : OC w b x x n w'
  tt : Blk w' tb ty cs
  ne : tb ≠ b
  ft : w.heap.size ≤ tb
theorem ST.drew {w w' : World} {b tb x : Nat} {ty : TypeId} {n : Int} {cs : Array Value} (h : ST w b tb ty n x cs w') : ST w b tb ty n x cs w'.drew := ⟨⟨h.oc.cc, h.oc.fb, h.oc.below.drew⟩, h.tt, h.ne, h.ft⟩
theorem ST.turn {w w' w2 : World} {b tb x y : Nat} {ty : TypeId} {n m : Int} {cs : Array Value} (h : ST w b tb ty n x cs w') (c : CC w2 b 0 y y m) (W : Wrt (fun _ => False) (CPl b 0) w' w2) : ST w b tb ty m y cs w2 :=
  ⟨h.oc.turn c W, h.tt.upd W.upd (by rintro (e | ⟨i, e, _⟩); exact e; exact h.ne e), h.ne, h.ft⟩
theorem ST.put {w w' : World} {b tb x : Nat} {ty : TypeId} {n : Int} {cs cs' : Array Value} (h : ST w b tb ty n x cs w') (i : Nat) (u : Value) (e : cs.setIfInBounds i u = cs') : ST w b tb ty n x cs' (w'.setCell ⟨tb, i, none⟩ u) := by
  subst e
  have U : Upd (fun k => k = tb) w' (w'.setCell ⟨tb, i, none⟩ u) := (Upd.refl (fun k => k = tb) w').setCell (p := ⟨tb, i, none⟩) (Or.inl rfl) u
  exact ⟨⟨h.oc.cc.upd U (fun e => h.ne e.symm), h.oc.fb, h.oc.below.trans (U.below (fun k e => by rw [e]; exact h.ft) h.oc.below.size)⟩, h.tt.put i u, h.ne, h.ft⟩
section
variable {w : World} {b tb x : Nat} {ty : TypeId} {n : Int} {cs : Array Value}
theorem st_load (C : Ce w) (hn : AskB n) (w' : World) (h : ST w b tb ty n x cs w') : Calls Try.prog 14 #[.pointer (some ⟨b, 0, none⟩)] w' fun e w2 => e = .returned (.tuple #[.int .u64 (x : Int), .int .u64 (x : Int)]) ∧ ST w b tb ty (n + 1) x cs w2 :=
  (C.load w' h.oc.below h.oc.cc hn).mono fun e w2 ⟨h1, h2, h3⟩ => ⟨h1, h.turn h2 h3⟩
theorem st_cas (C : Ce w) (hn : AskB n) (hx : x ≤ 1000) (w' : World) (h : ST w b tb ty n x cs w') : Calls Try.prog 12 #[.pointer (some ⟨b, 0, none⟩), .int .u64 (x : Int), .int .u64 ((x + 1 : Nat) : Int)] w' fun e w2 => e = .returned (.bool true) ∧ ST w b tb ty (n + 1) (x + 1) cs w2 := by
  have := C.cas w' h.oc.below x (x + 1) h.oc.cc hn (show x ≤ _ by omega) (by omega) (by omega)
  rw [decide_eq_true rfl, if_pos rfl] at this
  exact this.mono fun e w2 ⟨h1, h2, h3⟩ => ⟨h1, h.turn h2 h3⟩
theorem st_cas_no (C : Ce w) (hn : AskB n) (hx : x ≤ 1000) {g y : Nat} (hg : g ≤ 1000) (hy : y ≤ 1001) (hne : ¬ g = x) (w' : World) (h : ST w b tb ty n x cs w') : Calls Try.prog 12 #[.pointer (some ⟨b, 0, none⟩), .int .u64 (g : Int), .int .u64 (y : Int)] w' fun e w2 => e = .returned (.bool false) ∧ ST w b tb ty (n + 1) x cs w2 := by
  have := C.cas w' h.oc.below g y h.oc.cc hn (show x ≤ _ by omega) (by omega) (by omega)
  rw [decide_eq_false hne, if_neg hne, if_neg hne] at this
  exact this.mono fun e w2 ⟨h1, h2, h3⟩ => ⟨h1, h.turn h2 h3⟩
end
def Stacking (w : World) (b tb : Nat) (ty : TypeId) (len M : Nat) (i : Value) (wr : World) : Prop :=
  ∃ (j : Nat) (n : Int) (g0 : Nat) (l0 : Bool) (d0 g1 : Nat) (l1 : Bool) (d1 : Nat), j ≤ len ∧ i = .int .i64 (j : Int) ∧ 0 ≤ n ∧ n ≤ (j : Int) ∧ g0 ≤ 40 ∧ g1 ≤ 40 ∧ d0 ≤ M ∧ d1 ≤ M ∧ ST w b tb ty n (d0 + d1) (rowS g0 l0 d0 g1 l1 d1) wr
set_option maxRecDepth 100000 in
set_option maxHeartbeats 4000000 in
theorem walk_short (w : World) (C : Ce w) {a : Option Addr} {cap : Nat} (l : List Bool) (h : FlagsAt w (.slice a l.length cap) l) (hl : l.length ≤ 300) (N : Nat) (hN : N ≤ 255) :
    Calls Try.prog 6 #[.slice a l.length cap, .int .u8 (N : Int)] w fun e w' => e = .returned (.bool true) ∧ Below w.heap.size w w' := by
  obtain ⟨len, hlen⟩ : ∃ v, l.length = v := ⟨_, rfl⟩
  have HF := Lib.hid h
  rw [hlen] at hl ⊢
  have HLEN := Lib.hid hlen
  have t0 : decide ((300 : Int) < (len : Int)) = false := decide_eq_false (by omega)
  obtain ⟨M, hM⟩ : ∃ v, N % 20 = v := ⟨_, rfl⟩
  have hM19 : M ≤ 19 := by omega
  have em1 : (N : Int) % 20 = (M : Int) := by omega
  have em2 : Int.tmod (N : Int) 20 = (M : Int) := by rw [Int.tmod_eq_emod_of_nonneg (by omega)]; exact em1
  clear h hlen hM
  go_enter Try.func6, Try.ntmps6
  go_wp2_with fail
  refine (alive_any _ C).mono ?_; rintro e w1 ⟨rfl, hb⟩
  obtain ⟨b, hbb⟩ : ∃ b, w1.heap.size = b := ⟨_, rfl⟩
  have O0 := Lib.hid (OC.new 26 hb hbb)
  have hsz : (w1.alloc (.cells #[.int .u64 0, .int .u64 0, .int .i64 0] 26)).heap.size = b + 1 := by rw [← hbb]; exact World.size_alloc _ _
  have hS := fun (ty : TypeId) => (show ST w b (b + 1) ty 0 0 (rowS 0 false 0 0 false 0) ((w1.alloc (.cells #[.int .u64 0, .int .u64 0, .int .i64 0] 26)).alloc (.cells (rowS 0 false 0 0 false 0) ty)) from by
    have hk := Blk.new (w1.alloc (.cells #[.int .u64 0, .int .u64 0, .int .i64 0] 26)) ty (rowS 0 false 0 0 false 0)
    rw [hsz] at hk
    exact ⟨O0.out.grew ((Below.refl _ _).alloc (Nat.le_refl _) _), hk, by omega, by have := O0.out.fb; omega⟩)
  have HS := Lib.hid hS
  clear hb hS
  go_wp2
  clear hbb t0 em1 em2 hsz
  obtain ⟨tb, htb⟩ : ∃ v, b + 1 = v := ⟨_, rfl⟩
  rw [htb] at HS ⊢
  clear htb
  go_loopw [23] (fun i wr => Stacking w b tb 45 len M i wr) (fun i _ => len - (intOf i).toNat)
  case atStart => exact ⟨0, 0, 0, false, 0, 0, false, 0, Nat.zero_le _, rfl, Int.le_refl _, by omega, by omega, by omega, Nat.zero_le _, Nat.zero_le _, HS.out _⟩
  case round =>
    obtain ⟨j, n, g0, l0, d0, g1, l1, d1, hj, rfl, hn0, hn1, hg0, hg1, hd0, hd1, hs⟩ := hrel
    have S := Lib.hid hs
    have hbl := hs.oc.below
    have m0 : wr.cell? ⟨tb, 0, none⟩ = some (.int .u64 (g0 : Int)) := hs.tt.cell 0
    have m1 : wr.cell? ⟨tb, 1, none⟩ = some (.int .u64 (g0 : Int)) := hs.tt.cell 1
    have m2 : wr.cell? ⟨tb, 2, none⟩ = some (.bool l0) := hs.tt.cell 2
    have m3 : wr.cell? ⟨tb, 3, none⟩ = some (.int .i64 (d0 : Int)) := hs.tt.cell 3
    have m4 : wr.cell? ⟨tb, 4, none⟩ = some (.int .u64 (g1 : Int)) := hs.tt.cell 4
    have m5 : wr.cell? ⟨tb, 5, none⟩ = some (.int .u64 (g1 : Int)) := hs.tt.cell 5
    have m6 : wr.cell? ⟨tb, 6, none⟩ = some (.bool l1) := hs.tt.cell 6
    have m7 : wr.cell? ⟨tb, 7, none⟩ = some (.int .i64 (d1 : Int)) := hs.tt.cell 7
    clear hs
    have hA : AskB n := ⟨hn0, by omega⟩
    have e0 : ((0 : Int) ≤ n + 1) ∧ n + 1 ≤ ((j + 1 : Nat) : Int) := ⟨by omega, by omega⟩
    have e1 : n ≤ ((j + 1 : Nat) : Int) := by omega
    have E0 := Lib.hid e0; have E1 := Lib.hid e1
    clear e0 e1
    by_cases hlt : j < len
    · obtain ⟨a', cap', epl, _, _, _, hcl⟩ := HF.out.below (Nat.le_refl _) hbl
      injection epl with ea en ec
      subst ec
      clear en
      obtain ⟨b2, off2, e3, c0⟩ := hcl j (by have := HLEN.out; omega)
      rw [← ea] at e3
      subst e3
      clear hcl ea
      obtain ⟨s, hs⟩ : ∃ s, l.getD j false = s := ⟨_, rfl⟩
      rw [hs] at c0
      have q2 : decide ((j : Int) < (len : Int)) = true := decide_eq_true (by omega)
      have q2' : decide (j < len) = true := decide_eq_true hlt
      have q3 : (0 : Int) ≤ (j : Int) := by omega
      have q4 : (j : Int) < (len : Int) := by omega
      clear hs hbl
      cases s with
      | false =>
        by_cases hdm : d0 = M
        · have k1 : (((d0 : Nat) : Int) == (M : Int)) = true := by rw [beq_iff_eq]; omega
          have k1' : (d0 == M) = true := by rw [beq_iff_eq]; exact hdm
          clear hdm
          go_wp2
          go_roundw
          case rel => exact ⟨j + 1, n, g0, l0, d0, g1, l1, d1, by omega, by go_num, hn0, E1.out, hg0, hg1, hd0, hd1, S.out⟩
          case measure => simp [intOf]; omega
        · have k1 : (((d0 : Nat) : Int) == (M : Int)) = false := by rw [beq_eq_false_iff_ne]; omega
          have k1' : (d0 == M) = false := by rw [beq_eq_false_iff_ne]; exact hdm
          have hdl : d0 + 1 ≤ M := by omega
          have HDL := Lib.hid hdl
          obtain ⟨x, hx⟩ : ∃ x, d0 + d1 = x := ⟨_, rfl⟩
          have hx40 : x ≤ 40 := by omega
          rw [hx] at S
          have HX := Lib.hid hx
          have HX40 := Lib.hid hx40
          clear hdm hdl hx
          cases l0 with
          | false =>
            have LD := Lib.hid (fun w' (h : ST w b tb 45 n x (rowS g0 false d0 g1 l1 d1) w') => st_load C hA w' h)
            clear m0 m1 m2 m3 m4 m5 m6 m7 hx40 k1'
            have m2 : wr.cell? ⟨tb, 2, none⟩ = some (.bool false) := S.out.tt.cell 2
            have m3 : wr.cell? ⟨tb, 3, none⟩ = some (.int .i64 (d0 : Int)) := S.out.tt.cell 3
            go_wp2_with fail
            refine (LD.out _ S.out).mono ?_; rintro e w5 ⟨rfl, hs⟩
            have S := Lib.hid hs
            have z0 : w5.cell? ⟨tb, 0, none⟩ = some (.int .u64 (g0 : Int)) := hs.tt.cell 0
            have z1 : w5.cell? ⟨tb, 1, none⟩ = some (.int .u64 (g0 : Int)) := hs.tt.cell 1
            have z2 : w5.cell? ⟨tb, 2, none⟩ = some (.bool false) := hs.tt.cell 2
            have f0 := hs.tt.frozen 0
            have f1 := hs.tt.frozen 1
            have f2 := hs.tt.frozen 2
            clear hs m2 m3
            go_wp2
            go_roundw
            case rel => first | exact ⟨j + 1, n + 1, x, true, d0, g1, l1, d1, by omega, by go_num, E0.out.1, E0.out.2, HX40.out, hg1, hd0, hd1, by rw [HX.out]; exact ((S.out.put 0 _ rfl).put 1 _ rfl).put 2 _ rfl⟩ | ((repeat apply Exists.intro); exact ⟨⟨j + 1, n + 1, x, true, d0, g1, l1, d1, by omega, by go_num, E0.out.1, E0.out.2, HX40.out, hg1, hd0, hd1, by rw [HX.out]; exact ((S.out.put 0 _ rfl).put 1 _ rfl).put 2 _ rfl⟩, rfl⟩)
            case measure => simp [intOf]; omega
          | true =>
            obtain ⟨y, hy⟩ : ∃ y, g0 + 1 = y := ⟨_, rfl⟩
            have hy1 : y ≤ 1001 := by omega
            by_cases hgx : g0 = x
            · have CS := Lib.hid (fun w' (h : ST w b tb 45 n x (rowS g0 true d0 g1 l1 d1) w') => st_cas C hA (by omega) w' h)
              rw [← hgx, hy] at CS
              rw [← hgx] at S
              have wy : IntKind.u64.wrap ((g0 : Int) + 1) = (y : Int) := by rw [u64_in _ ⟨by omega, by omega⟩]; omega
              have hyn : y = (d0 + 1) + d1 := by have := HX.out; omega
              have HY := Lib.hid hyn
              clear m0 m1 m2 m3 m4 m5 m6 m7 hx40 k1' hgx hy hyn hy1
              have m0 : wr.cell? ⟨tb, 0, none⟩ = some (.int .u64 (g0 : Int)) := S.out.tt.cell 0
              have m1 : wr.cell? ⟨tb, 1, none⟩ = some (.int .u64 (g0 : Int)) := S.out.tt.cell 1
              have m2 : wr.cell? ⟨tb, 2, none⟩ = some (.bool true) := S.out.tt.cell 2
              have m3 : wr.cell? ⟨tb, 3, none⟩ = some (.int .i64 (d0 : Int)) := S.out.tt.cell 3
              go_wp2
              go_region_held3 (fun w' => w'.cell? ⟨tb, 1, none⟩ = some (.int .u64 (g0 : Int)) ∧ w'.cell? ⟨tb, 0, none⟩ = some (.int .u64 (g0 : Int))) (first | go_keep | exact ⟨m1, m0⟩) (first | (go_at_call 12; (first | (with_reducible refine (CS.out _ S.out.drew).mono ?_) | (with_reducible refine (CS.out _ S.out).mono ?_)); rintro e w5 ⟨rfl, hs⟩; have S := Lib.hid hs; have m0 : w5.cell? ⟨tb, 0, none⟩ = some (.int .u64 (g0 : Int)) := hs.tt.cell 0; have m1 : w5.cell? ⟨tb, 1, none⟩ = some (.int .u64 (g0 : Int)) := hs.tt.cell 1; have z2 : w5.cell? ⟨tb, 2, none⟩ = some (.bool true) := hs.tt.cell 2; have z3 : w5.cell? ⟨tb, 3, none⟩ = some (.int .i64 (d0 : Int)) := hs.tt.cell 3; have f2 := hs.tt.frozen 2; have f3 := hs.tt.frozen 3; clear hs))
              go_wp2
              go_roundw
              case rel => first | exact ⟨j + 1, n + 1, g0, false, d0 + 1, g1, l1, d1, by omega, by go_num, E0.out.1, E0.out.2, hg0, hg1, HDL.out, hd1, by rw [← HY.out]; exact (S.out.put 3 _ rfl).put 2 _ rfl⟩ | ((repeat apply Exists.intro); exact ⟨⟨j + 1, n + 1, g0, false, d0 + 1, g1, l1, d1, by omega, by go_num, E0.out.1, E0.out.2, hg0, hg1, HDL.out, hd1, by rw [← HY.out]; exact (S.out.put 3 _ rfl).put 2 _ rfl⟩, rfl⟩)
              case measure => simp [intOf]; omega
            · have CS := Lib.hid (fun w' (h : ST w b tb 45 n x (rowS g0 true d0 g1 l1 d1) w') => st_cas_no C hA (by omega) (g := g0) (y := y) (by omega) hy1 hgx w' h)
              have wy : IntKind.u64.wrap ((g0 : Int) + 1) = (y : Int) := by rw [u64_in _ ⟨by omega, by omega⟩]; omega
              clear m0 m1 m2 m3 m4 m5 m6 m7 hx40 k1' hgx hy hy1
              have m0 : wr.cell? ⟨tb, 0, none⟩ = some (.int .u64 (g0 : Int)) := S.out.tt.cell 0
              have m1 : wr.cell? ⟨tb, 1, none⟩ = some (.int .u64 (g0 : Int)) := S.out.tt.cell 1
              have m2 : wr.cell? ⟨tb, 2, none⟩ = some (.bool true) := S.out.tt.cell 2
              have m3 : wr.cell? ⟨tb, 3, none⟩ = some (.int .i64 (d0 : Int)) := S.out.tt.cell 3
              go_wp2
              go_region_held3 (fun w' => w'.cell? ⟨tb, 1, none⟩ = some (.int .u64 (g0 : Int)) ∧ w'.cell? ⟨tb, 0, none⟩ = some (.int .u64 (g0 : Int))) (first | go_keep | exact ⟨m1, m0⟩) (first | (go_at_call 12; (first | (with_reducible refine (CS.out _ S.out.drew).mono ?_) | (with_reducible refine (CS.out _ S.out).mono ?_)); rintro e w5 ⟨rfl, hs⟩; have S := Lib.hid hs; have m0 : w5.cell? ⟨tb, 0, none⟩ = some (.int .u64 (g0 : Int)) := hs.tt.cell 0; have m1 : w5.cell? ⟨tb, 1, none⟩ = some (.int .u64 (g0 : Int)) := hs.tt.cell 1; have z2 : w5.cell? ⟨tb, 2, none⟩ = some (.bool true) := hs.tt.cell 2; have z3 : w5.cell? ⟨tb, 3, none⟩ = some (.int .i64 (d0 : Int)) := hs.tt.cell 3; have f2 := hs.tt.frozen 2; have f3 := hs.tt.frozen 3; clear hs))
              go_wp2
              go_roundw
              case rel => first | exact ⟨j + 1, n + 1, g0, false, d0, g1, l1, d1, by omega, by go_num, E0.out.1, E0.out.2, hg0, hg1, hd0, hd1, by rw [HX.out]; exact S.out.put 2 _ rfl⟩ | ((repeat apply Exists.intro); exact ⟨⟨j + 1, n + 1, g0, false, d0, g1, l1, d1, by omega, by go_num, E0.out.1, E0.out.2, hg0, hg1, hd0, hd1, by rw [HX.out]; exact S.out.put 2 _ rfl⟩, rfl⟩)
              case measure => simp [intOf]; omega
      | true =>
        by_cases hdm : d1 = M
        · have k1 : (((d1 : Nat) : Int) == (M : Int)) = true := by rw [beq_iff_eq]; omega
          have k1' : (d1 == M) = true := by rw [beq_iff_eq]; exact hdm
          clear hdm
          go_wp2
          go_roundw
          case rel => exact ⟨j + 1, n, g0, l0, d0, g1, l1, d1, by omega, by go_num, hn0, E1.out, hg0, hg1, hd0, hd1, S.out⟩
          case measure => simp [intOf]; omega
        · have k1 : (((d1 : Nat) : Int) == (M : Int)) = false := by rw [beq_eq_false_iff_ne]; omega
          have k1' : (d1 == M) = false := by rw [beq_eq_false_iff_ne]; exact hdm
          have hdl : d1 + 1 ≤ M := by omega
          have HDL := Lib.hid hdl
          obtain ⟨x, hx⟩ : ∃ x, d0 + d1 = x := ⟨_, rfl⟩
          have hx40 : x ≤ 40 := by omega
          rw [hx] at S
          have HX := Lib.hid hx
          have HX40 := Lib.hid hx40
          clear hdm hdl hx
          cases l1 with
          | false =>
            have LD := Lib.hid (fun w' (h : ST w b tb 45 n x (rowS g0 l0 d0 g1 false d1) w') => st_load C hA w' h)
            clear m0 m1 m2 m3 m4 m5 m6 m7 hx40 k1'
            have m2 : wr.cell? ⟨tb, 6, none⟩ = some (.bool false) := S.out.tt.cell 6
            have m3 : wr.cell? ⟨tb, 7, none⟩ = some (.int .i64 (d1 : Int)) := S.out.tt.cell 7
            go_wp2_with fail
            refine (LD.out _ S.out).mono ?_; rintro e w5 ⟨rfl, hs⟩
            have S := Lib.hid hs
            have z0 : w5.cell? ⟨tb, 4, none⟩ = some (.int .u64 (g1 : Int)) := hs.tt.cell 4
            have z1 : w5.cell? ⟨tb, 5, none⟩ = some (.int .u64 (g1 : Int)) := hs.tt.cell 5
            have z2 : w5.cell? ⟨tb, 6, none⟩ = some (.bool false) := hs.tt.cell 6
            have f0 := hs.tt.frozen 4
            have f1 := hs.tt.frozen 5
            have f2 := hs.tt.frozen 6
            clear hs m2 m3
            go_wp2
            go_roundw
            case rel => first | exact ⟨j + 1, n + 1, g0, l0, d0, x, true, d1, by omega, by go_num, E0.out.1, E0.out.2, hg0, HX40.out, hd0, hd1, by rw [HX.out]; exact ((S.out.put 4 _ rfl).put 5 _ rfl).put 6 _ rfl⟩ | ((repeat apply Exists.intro); exact ⟨⟨j + 1, n + 1, g0, l0, d0, x, true, d1, by omega, by go_num, E0.out.1, E0.out.2, hg0, HX40.out, hd0, hd1, by rw [HX.out]; exact ((S.out.put 4 _ rfl).put 5 _ rfl).put 6 _ rfl⟩, rfl⟩)
            case measure => simp [intOf]; omega
          | true =>
            obtain ⟨y, hy⟩ : ∃ y, g1 + 1 = y := ⟨_, rfl⟩
            have hy1 : y ≤ 1001 := by omega
            by_cases hgx : g1 = x
            · have CS := Lib.hid (fun w' (h : ST w b tb 45 n x (rowS g0 l0 d0 g1 true d1) w') => st_cas C hA (by omega) w' h)
              rw [← hgx, hy] at CS
              rw [← hgx] at S
              have wy : IntKind.u64.wrap ((g1 : Int) + 1) = (y : Int) := by rw [u64_in _ ⟨by omega, by omega⟩]; omega
              have hyn : y = d0 + (d1 + 1) := by have := HX.out; omega
              have HY := Lib.hid hyn
              clear m0 m1 m2 m3 m4 m5 m6 m7 hx40 k1' hgx hy hyn hy1
              have m0 : wr.cell? ⟨tb, 4, none⟩ = some (.int .u64 (g1 : Int)) := S.out.tt.cell 4
              have m1 : wr.cell? ⟨tb, 5, none⟩ = some (.int .u64 (g1 : Int)) := S.out.tt.cell 5
              have m2 : wr.cell? ⟨tb, 6, none⟩ = some (.bool true) := S.out.tt.cell 6
              have m3 : wr.cell? ⟨tb, 7, none⟩ = some (.int .i64 (d1 : Int)) := S.out.tt.cell 7
              go_wp2
              go_region_held3 (fun w' => w'.cell? ⟨tb, 5, none⟩ = some (.int .u64 (g1 : Int)) ∧ w'.cell? ⟨tb, 4, none⟩ = some (.int .u64 (g1 : Int))) (first | go_keep | exact ⟨m1, m0⟩) (first | (go_at_call 12; (first | (with_reducible refine (CS.out _ S.out.drew).mono ?_) | (with_reducible refine (CS.out _ S.out).mono ?_)); rintro e w5 ⟨rfl, hs⟩; have S := Lib.hid hs; have m0 : w5.cell? ⟨tb, 4, none⟩ = some (.int .u64 (g1 : Int)) := hs.tt.cell 4; have m1 : w5.cell? ⟨tb, 5, none⟩ = some (.int .u64 (g1 : Int)) := hs.tt.cell 5; have z2 : w5.cell? ⟨tb, 6, none⟩ = some (.bool true) := hs.tt.cell 6; have z3 : w5.cell? ⟨tb, 7, none⟩ = some (.int .i64 (d1 : Int)) := hs.tt.cell 7; have f2 := hs.tt.frozen 6; have f3 := hs.tt.frozen 7; clear hs))
              go_wp2
              go_roundw
              case rel => first | exact ⟨j + 1, n + 1, g0, l0, d0, g1, false, d1 + 1, by omega, by go_num, E0.out.1, E0.out.2, hg0, hg1, hd0, HDL.out, by rw [← HY.out]; exact (S.out.put 7 _ rfl).put 6 _ rfl⟩ | ((repeat apply Exists.intro); exact ⟨⟨j + 1, n + 1, g0, l0, d0, g1, false, d1 + 1, by omega, by go_num, E0.out.1, E0.out.2, hg0, hg1, hd0, HDL.out, by rw [← HY.out]; exact (S.out.put 7 _ rfl).put 6 _ rfl⟩, rfl⟩)
              case measure => simp [intOf]; omega
            · have CS := Lib.hid (fun w' (h : ST w b tb 45 n x (rowS g0 l0 d0 g1 true d1) w') => st_cas_no C hA (by omega) (g := g1) (y := y) (by omega) hy1 hgx w' h)
              have wy : IntKind.u64.wrap ((g1 : Int) + 1) = (y : Int) := by rw [u64_in _ ⟨by omega, by omega⟩]; omega
              clear m0 m1 m2 m3 m4 m5 m6 m7 hx40 k1' hgx hy hy1
              have m0 : wr.cell? ⟨tb, 4, none⟩ = some (.int .u64 (g1 : Int)) := S.out.tt.cell 4
              have m1 : wr.cell? ⟨tb, 5, none⟩ = some (.int .u64 (g1 : Int)) := S.out.tt.cell 5
              have m2 : wr.cell? ⟨tb, 6, none⟩ = some (.bool true) := S.out.tt.cell 6
              have m3 : wr.cell? ⟨tb, 7, none⟩ = some (.int .i64 (d1 : Int)) := S.out.tt.cell 7
              go_wp2
              go_region_held3 (fun w' => w'.cell? ⟨tb, 5, none⟩ = some (.int .u64 (g1 : Int)) ∧ w'.cell? ⟨tb, 4, none⟩ = some (.int .u64 (g1 : Int))) (first | go_keep | exact ⟨m1, m0⟩) (first | (go_at_call 12; (first | (with_reducible refine (CS.out _ S.out.drew).mono ?_) | (with_reducible refine (CS.out _ S.out).mono ?_)); rintro e w5 ⟨rfl, hs⟩; have S := Lib.hid hs; have m0 : w5.cell? ⟨tb, 4, none⟩ = some (.int .u64 (g1 : Int)) := hs.tt.cell 4; have m1 : w5.cell? ⟨tb, 5, none⟩ = some (.int .u64 (g1 : Int)) := hs.tt.cell 5; have z2 : w5.cell? ⟨tb, 6, none⟩ = some (.bool true) := hs.tt.cell 6; have z3 : w5.cell? ⟨tb, 7, none⟩ = some (.int .i64 (d1 : Int)) := hs.tt.cell 7; have f2 := hs.tt.frozen 6; have f3 := hs.tt.frozen 7; clear hs))
              go_wp2
              go_roundw
              case rel => first | exact ⟨j + 1, n + 1, g0, l0, d0, g1, false, d1, by omega, by go_num, E0.out.1, E0.out.2, hg0, hg1, hd0, hd1, by rw [HX.out]; exact S.out.put 6 _ rfl⟩ | ((repeat apply Exists.intro); exact ⟨⟨j + 1, n + 1, g0, l0, d0, g1, false, d1, by omega, by go_num, E0.out.1, E0.out.2, hg0, hg1, hd0, hd1, by rw [HX.out]; exact S.out.put 6 _ rfl⟩, rfl⟩)
              case measure => simp [intOf]; omega
    · obtain rfl : j = len := by omega
      have q2 : decide ((j : Int) < (j : Int)) = false := decide_eq_false (by omega)
      obtain ⟨x, hx⟩ : ∃ x, d0 + d1 = x := ⟨_, rfl⟩
      have hx40 : x ≤ 40 := by omega
      rw [hx] at S
      have LD := Lib.hid (fun w' (h : ST w b tb 45 n x (rowS g0 l0 d0 g1 l1 d1) w') => st_load C hA w' h)
      have ex : (d0 : Int) + (d1 : Int) = (x : Int) := by omega
      have tx : ((x : Int) == (x : Int)) = true := by simp
      have wx : IntKind.i64.wrap (x : Int) = (x : Int) := IntWalk.i64_in _ (by omega)
      have wx' : IntKind.u64.wrap (x : Int) = (x : Int) := u64_in _ ⟨by omega, by omega⟩
      clear hx hbl m0 m1 m2 m3 m4 m5 m6 m7
      go_wp2_with fail
      refine (LD.out _ S.out).mono ?_; rintro e w5 ⟨rfl, hs⟩
      have S := Lib.hid hs
      have m3 : w5.cell? ⟨tb, 3, none⟩ = some (.int .i64 (d0 : Int)) := hs.tt.cell 3
      have m7 : w5.cell? ⟨tb, 7, none⟩ = some (.int .i64 (d1 : Int)) := hs.tt.cell 7
      clear hs
      go_wp2
      go_ret
      exact ⟨by simp, S.out.oc.below⟩
theorem walk_nat (w : World) (C : Ce w) {a : Option Addr} {n cap : Nat} (l : List Bool) (h : FlagsAt w (.slice a n cap) l) (N : Nat) (hN : N ≤ 255) :
    Calls Try.prog 6 #[.slice a n cap, .int .u8 (N : Int)] w fun e w' => e = .returned (.bool true) ∧ Below w.heap.size w w' := by
  obtain rfl := h.len
  by_cases hl : l.length ≤ 300
  · exact walk_short w C l h hl N hN
  have t0 : decide ((300 : Int) < (l.length : Int)) = true := decide_eq_true (by omega)
  obtain ⟨len, hlen⟩ : ∃ v, l.length = v := ⟨_, rfl⟩
  rw [hlen] at t0 ⊢
  clear h hl hlen
  go_enter Try.func6, Try.ntmps6
  go_wp2_with fail
  refine (alive_any _ C).mono ?_; rintro e w1 ⟨rfl, hb⟩
  have B1 := Lib.hid hb
  clear hb
  go_wp2
  go_ret
  exact ⟨rfl, B1.out⟩
theorem walk_of (w : World) (C : Ce w) {a : Option Addr} {n cap : Nat} (l : List Bool) (h : FlagsAt w (.slice a n cap) l) (k : Int) (hk : (Lit.int .u8 k).wf = true) :
    Calls Try.prog 6 #[.slice a n cap, .int .u8 k] w fun e w' => e = .returned (.bool true) ∧ Below w.heap.size w w' := by
  obtain ⟨k0, k1⟩ := u8_bd hk
  obtain ⟨N, rfl⟩ := Int.eq_ofNat_of_zero_le k0
  exact walk_nat w C l h N (by omega)
end Go.Proofs.Ytgfinibimdgkfaa.cellStack
