/- Lists (layer 7): the landed iterator over what hangs on a block: its contract. -/
import Derived.RangeFuncNested
import Derived.RangeFuncBound
import Derived.RangeFuncCalls
import Derived.RangeFuncLeaves
import Derived.RangeFuncBox
import Derived.Shelf.Abstract
import Derived.Shelf.RegionOpen
import Derived.WalkKit
import Derived.OwnWalkIn
import Derived.TacticsInMore
import Derived.LoopNIn
import Derived.LoopIn
import Derived.Laws.Small
import Derived.Deep.RegionHeld3
import Derived.IntWalk
import Derived.Test.YtmnnmgphiiedgaaIterMath
import Derived.Test.YtmnnmgphiiedgaaListG
namespace Go.Proofs.Ytmnnmgphiiedgaa
open Go.RowKit Go.Shelf ListMath
set_option linter.unusedVariables false
attribute [local go_sem] Oper.semAt_some

/-- Blocks that lie as they lay. -/
def Keeps (K : Nat → Prop) (W W' : World) : Prop := ∀ k, K k → W'.heap[k]? = W.heap[k]?
theorem Keeps.refl (K : Nat → Prop) (W : World) : Keeps K W W := fun _ _ => rfl
theorem keeps_t {K : Nat → Prop} {A B C : World} (h : Keeps K A B) (k : Keeps K B C) : Keeps K A C := fun i hi => (k i hi).trans (h i hi)
theorem keeps_b {K : Nat → Prop} {w : World} (hn : ∀ k, K k → k < w.heap.size) (W : World) (l : Nat) (o o' : Obj) (hl : w.heap.size ≤ l) (h : W.heap[l]? = some o) (_ : o.isCells = false) (_ : o.isWalk = false) : Keeps K W (W.putObj l o') :=
  fun k hk => (grownBy_putObj' W l o').block k (by have := hn k hk; have := (Array.getElem?_eq_some_iff.1 h).1; omega) (by have := hn k hk; intro e; injection e; omega)
theorem Keeps.setCell {K : Nat → Prop} {W W' : World} (h : Keeps K W W') {a : Addr} (ha : ¬ K a.block) (v : Value) : Keeps K W (W'.setCell a v) :=
  keeps_t h fun k hk => Below.heap_setCell _ _ _ _ (fun e => ha (e ▸ hk))
theorem keeps_drew (K : Nat → Prop) (W : World) : Keeps K W W.drew := fun _ _ => rfl
theorem Keeps.upd {K S : Nat → Prop} {W W' W2 : World} (h : Keeps K W W') (u : Upd S W' W2) (hk : ∀ k, K k → k < W'.heap.size ∧ ¬ S k) : Keeps K W W2 :=
  keeps_t h fun k hK => u.block k (hk k hK).1 (hk k hK).2
theorem Keeps.cell {K : Nat → Prop} {W W' : World} (h : Keeps K W W') {a : Addr} (ha : K a.block) : W'.cell? a = W.cell? a := World.cell?_of_block (h _ ha)

def K3 (p g b : Nat) (k : Nat) : Prop := k = p ∨ k = g ∨ k = b
theorem IsMem.kept {W W' : World} {p g b : Nat} {L : List Nat} (h : IsMem W p g L) (k : Keeps (K3 p g b) W W') : IsMem W' p g L :=
  ⟨(k p (.inl rfl)).trans h.head, (k g (.inr (.inl rfl))).trans h.row, h.byt, h.big⟩
/-- A block's address, and its link. -/
abbrev Lnk : Type := { x : Nat × Nat // x.1 ≤ 1048576 ∧ x.2 ≤ 18446744073709551615 }
abbrev lnkVals (x : Lnk) : Array Value := #[.int .u64 (x.1.1 : Int), .int .u64 (x.1.2 : Int)]
def AllCome (L : List Nat) (Z h0 : Nat) (xs : List Lnk) : Prop := xs.map (·.1) = walkF L Z h0
/-- How many may come at most. -/
def mostF (L : List Nat) (m : Int) : Nat := min m.toNat L.length

def ItRel (L : List Nat) (Z h0 p g b : Nat) (J : List Lnk → World → Prop) (W : World) (x i : Value) (wr : World) : Prop :=
  ∃ (pre : List Lnk) (k a : Nat), k ≤ Z ∧ pre.length = k ∧ a ≤ 18446744073709551615 ∧ x = .int .u64 (a : Int) ∧ i = .int .i64 (k : Int) ∧ pre.map (·.1) ++ walkF L (Z - k) a = walkF L Z h0 ∧ J pre wr ∧ Keeps (K3 p g b) W wr

theorem linkAt_le' {L : List Nat} (h : MemMath.Byt L) {a : Nat} (h8 : a + 8 ≤ L.length) : linkAt L a ≤ 18446744073709551615 := by
  have := MemMath.val_lt (h.part a 8)
  rw [MemMath.length_part h8] at this
  unfold linkAt; omega
theorem grownBy_drew (w : World) : w.grownBy w.drew none := ⟨rfl, rfl, rfl, Nat.le_refl _, fun _ _ _ => rfl⟩
theorem load8 {w : World} {p g : Nat} {L : List Nat} (h : IsMem w p g L) {a : Nat} (h8 : a + 8 ≤ L.length) : Calls Try.prog 30 #[.pointer (some ⟨p, 0, none⟩), .int .u64 (a : Int), .int .i64 8] w fun e w' => e = .returned (.tuple #[.int .u64 (linkAt L a : Int), .int .i64 0]) ∧ w = w' := load_ok h a 8 (.inr (.inr (.inr rfl))) h8
theorem load8_out {w : World} {p g : Nat} {L : List Nat} (h : IsMem w p g L) {a : Nat} (h8 : ¬ a + 8 ≤ L.length) : Calls Try.prog 30 #[.pointer (some ⟨p, 0, none⟩), .int .u64 (a : Int), .int .i64 8] w fun e w' => e = .returned (.tuple #[.int .u64 0, .int .i64 3]) ∧ w = w' := load_out h a 8 (.inr (.inr (.inr rfl))) (by omega)

set_option maxRecDepth 100000 in
set_option maxHeartbeats 2000000 in
theorem blocks1_in (n : Nat) (hn : 1 ≤ n) (l bh bs b p g : Nat) (L : List Nat) (h0 : Nat) (hh : h0 ≤ 18446744073709551615) (m : Int) (hm1 : -9223372036854775808 ≤ m) (hm2 : m ≤ 9223372036854775807) (J Jx : List Lnk → World → Prop) (W : World) (hJ : AbidesFrom W.heap.size J)
    (hY : ∀ pre x W, J pre W → pre.length < 1048576 → YieldAt Fence.wide (n - 1) Try.prog l (lnkVals x) W fun e W' =>
      (e = .returned (.bool true) ∧ J (pre ++ [x]) W' ∧ Keeps (K3 p g b) W W') ∨ (e = .returned (.bool false) ∧ Jx (pre ++ [x]) W'))
    (hbh : W.cell? ⟨bh, 0, none⟩ = some (.int .u64 (h0 : Int))) (hbs : W.cell? ⟨bs, 0, none⟩ = some (.int .i64 m)) (hb : W.cell? ⟨b, 0, none⟩ = some (.pointer (some ⟨p, 0, none⟩))) (hm : IsMem W p g L) (hJ0 : J [] W) :
    CallsIn Fence.wide n Try.prog 43 #[.func (.yield l) #[] #[], .pointer (some ⟨bh, 0, none⟩), .pointer (some ⟨bs, 0, none⟩), .pointer (some ⟨b, 0, none⟩)] W fun e W' => (∃ v, e = .returned v) ∧
      ((∃ ys, AllCome L (mostF L m) h0 ys ∧ J ys W') ∨ (∃ pre, True ∧ Jx pre W')) := by
  have hbig := hm.big
  have HS := Lib.hid (fun (w' : World) (k : Keeps (K3 p g b) W w') => size_any (hm.kept k))
  have hJ1 : J [] W.drew := hJ _ _ _ none hJ0 (grownBy_drew W) (fun r e => by cases e)
  obtain ⟨N, hN⟩ : ∃ N, L.length = N := ⟨_, rfl⟩
  have HN := Lib.hid hN
  obtain ⟨z, hz⟩ : ∃ z : Int, (if (N : Int) < m then (N : Int) else m) = z := ⟨_, rfl⟩
  have hzm : z.toNat = mostF L m := by unfold mostF; rw [hN, ← hz]; split <;> omega
  rw [hN] at hbig HS
  have hzle : z ≤ (N : Int) := by rw [← hz]; split <;> omega
  have hzge : -9223372036854775808 ≤ z := by rw [← hz]; split <;> omega
  have hmin : ∀ w, (Builtin.min_ #[3, 3] 3 #[.int .i64 m, .int .i64 (N : Int)]).run Try.prog w = .ok (.int .i64 z) w := fun w => by rw [run_min_int2, hz]
  rw [← hzm]
  obtain ⟨Z, hZ⟩ : ∃ Z, z.toNat = Z := ⟨_, rfl⟩
  rw [hZ]
  have HZ := Lib.hid hZ
  have hb64 : Z ≤ 1048576 := by omega
  have H := Lib.hid hm; have H0 := Lib.hid hJ1; have HB := Lib.hid hb; have HY := Lib.hid hY
  have hwN : IntKind.i64.wrap (N : Int) = (N : Int) := IntWalk.i64_in _ ⟨by omega, by omega⟩
  clear hm hJ0 hJ1 hJ hY hN hzm hZ
  refine callsIn_of_wp Try.func43 rfl trivial ?_ rfl
  simp only [Try.ntmps43, List.size_toArray, List.length_cons, List.length_nil, Nat.reduceAdd, Nat.reduceSub, Array.replicate_succ, Array.replicate_zero, List.push_toArray, List.append_toArray, List.nil_append, List.cons_append]
  refine wpIn_wide.2 ?_
  go_wp2_with fail
  go_region_held3 (fun w' => w'.cell? ⟨bs, 0, none⟩ = some (.int .i64 m) ∧ w'.cell? ⟨b, 0, none⟩ = some (.pointer (some ⟨p, 0, none⟩))) (first | go_keep | exact ⟨hbs, hb⟩)
    (first
      | (go_at_call 44; with_reducible refine (HS.out _ (keeps_drew _ _)).mono ?_; rintro e w5 ⟨rfl, rfl⟩))
  clear hwN hz hmin hbh hbs hb
  rename_i Q1 K1 hK1 hHeld1
  clear hHeld1
  refine hK1 _ _ ?_
  clear hK1 K1
  refine wpIn_wide (n := n).1 ?_
  gi_wp2
  gi_loopw [5, 14] (fun x i wr => ItRel L Z h0 p g b J W x i wr) (fun _ i _ => Z - (intOf i).toNat)
  case atStart => exact ⟨[], 0, h0, Nat.zero_le _, rfl, hh, rfl, rfl, rfl, H0.out, keeps_drew _ _⟩
  case round =>
    obtain ⟨pre, k, a, hk, hpk, ha, rfl, rfl, hx, hJ, hkp⟩ := hrel
    have hc3 : wr.cell? ⟨b, 0, none⟩ = some (.pointer (some ⟨p, 0, none⟩)) := (hkp.cell (a := ⟨b, 0, none⟩) (.inr (.inr rfl))).trans HB.out
    have hm3 := H.out.kept hkp
    have HX := Lib.hid hx; have HJ := Lib.hid hJ; have HK := Lib.hid hkp; have HP := Lib.hid hpk; have M := Lib.hid hm3
    clear hx hJ hkp hpk hm3
    by_cases hlt : (k : Int) < z
    · have t1 : decide ((k : Int) < z) = true := decide_eq_true hlt
      have hkZ : k < Z := by rw [← HZ.out]; omega
      by_cases ha0 : a = 0
      · subst ha0
        have t2 : (((0 : Nat) : Int) == 0) = true := by decide
        have hx := HX.out
        rw [walkF_zero, List.append_nil] at hx
        have HA := Lib.hid hx
        clear hx HX
        gi_wp2
        refine bodyPost_ret (results_none rfl _ _ _) rfl ?_
        exact ⟨⟨_, rfl⟩, .inl ⟨pre, HA.out, HJ.out⟩⟩
      · have t2 : ((a : Int) == 0) = false := by rw [beq_eq_false_iff_ne]; omega
        by_cases h8 : a + 8 ≤ L.length
        · obtain ⟨c, hc⟩ : ∃ c, linkAt L a = c := ⟨_, rfl⟩
          have hcb : c ≤ 18446744073709551615 := by rw [← hc]; exact linkAt_le' H.out.byt h8
          have hx := HX.out
          rw [walkF_in (by omega) ha0 h8 hc] at hx
          have hld := load8 M.out h8
          rw [hc] at hld
          have ha20 : a ≤ 1048576 := by have := H.out.big; omega
          obtain ⟨x, hxx⟩ : ∃ x : Lnk, x = ⟨(a, c), ha20, hcb⟩ := ⟨_, rfl⟩
          obtain ⟨fn, tmps, assign, body, hy, hR⟩ := HY.out pre x wr HJ.out (by rw [HP.out]; omega)
          have hx1 : x.1.1 = a := by rw [hxx]
          have hx2 : x.1.2 = c := by rw [hxx]
          have hx3 : x.1 = (a, c) := by rw [hxx]
          dsimp only [lnkVals] at hy
          rw [hx1, hx2] at hy
          have LD := Lib.hid hld; have HX2 := Lib.hid hx; have X3 := Lib.hid hx3
          clear hxx hx1 hx2 hx3 hx hld hc h8 HX ha0
          gi_wp2_with (refine ⟨trivial, ?_⟩; gi_at_call 30; refine (callsIn_wide.2 LD.out).mono ?_; rintro e w' ⟨rfl, rfl⟩)
          refine hR.mono ?_
          rintro e W3 (⟨rfl, hJ3, hk3⟩ | ⟨rfl, hJx3⟩)
          · have H3 := Lib.hid (And.intro hJ3 hk3); clear hJ3 hk3
            gi_wp2
            go_roundw
            case rel => exact ⟨pre ++ [x], k + 1, c, by omega, by rw [List.length_append, HP.out]; rfl, hcb, rfl, by go_num, by
              rw [List.map_append, List.append_assoc]
              show pre.map (·.1) ++ ([x.1] ++ _) = _
              rw [X3.out, ← HX2.out, show Z - k - 1 = Z - (k + 1) by omega]; rfl, H3.out.1, keeps_t HK.out H3.out.2⟩
            case measure => simp [intOf]; omega
          · have H3 := Lib.hid hJx3; clear hJx3
            gi_wp2
            refine bodyPost_ret (results_none rfl _ _ _) rfl ?_
            exact ⟨⟨_, rfl⟩, .inr ⟨pre ++ [x], trivial, H3.out⟩⟩
        · have hx := HX.out
          rw [walkF_out h8, List.append_nil] at hx
          have HA := Lib.hid hx
          have LD := Lib.hid (load8_out M.out h8)
          clear hx HX h8 ha0
          gi_wp2_with (refine ⟨trivial, ?_⟩; gi_at_call 30; refine (callsIn_wide.2 LD.out).mono ?_; rintro e w' ⟨rfl, rfl⟩)
          refine ⟨fun _ h => (by cases h), ?_⟩
          gi_wp2
          refine bodyPost_ret (results_none rfl _ _ _) rfl ?_
          exact ⟨⟨_, rfl⟩, .inl ⟨pre, HA.out, HJ.out⟩⟩
    · have t1 : decide ((k : Int) < z) = false := decide_eq_false hlt
      have hkZ : k = Z := by have := HZ.out; omega
      have hx := HX.out
      rw [hkZ, Nat.sub_self] at hx
      have HA : Hid (pre.map (·.1) = walkF L Z h0) := Lib.hid (by rw [← hx]; simp [walkF])
      clear hx HX hkZ
      gi_wp2
      go_end0
      exact ⟨⟨_, rfl⟩, .inl ⟨pre, HA.out, HJ.out⟩⟩
set_option maxHeartbeats 1000000 in
theorem blocks_in (n : Nat) (a : Option Addr) (h0 m : Int) (w : World) :
    CallsIn Fence.wide n Try.prog 33 #[.pointer a, .int .u64 h0, .int .i64 m] w fun e w' => e = .returned (.func (.func 43) #[] #[.pointer (some ⟨w.heap.size + 1, 0, none⟩), .pointer (some ⟨w.heap.size + 1 + 1, 0, none⟩), .pointer (some ⟨w.heap.size, 0, none⟩)]) ∧
      w' = ((w.alloc (.cells #[.pointer a] 24)).alloc (.cells #[.int .u64 h0] 28)).alloc (.cells #[.int .i64 m] 3) := by
  refine callsIn_wide.2 ?_
  go_enter Try.func33, Try.ntmps33
  go_wp2
  go_ret
  exact ⟨rfl, rfl⟩
/-- What hangs on a block, handed on; the boxes of the iterator's. -/
theorem blocks_stops (n : Nat) (hn : 1 ≤ n) (bh bs b p g : Nat) (L : List Nat) (h0 : Nat) (hh : h0 ≤ 18446744073709551615) (m : Int) (hm1 : -9223372036854775808 ≤ m) (hm2 : m ≤ 9223372036854775807) (w : World)
    (hbh : w.cell? ⟨bh, 0, none⟩ = some (.int .u64 (h0 : Int))) (hbs : w.cell? ⟨bs, 0, none⟩ = some (.int .i64 m)) (hb : w.cell? ⟨b, 0, none⟩ = some (.pointer (some ⟨p, 0, none⟩))) (hm : IsMem w p g L) :
    SeqStopsK Fence.wide n Try.prog 43 #[.pointer (some ⟨bh, 0, none⟩), .pointer (some ⟨bs, 0, none⟩), .pointer (some ⟨b, 0, none⟩)] lnkVals (Keeps (K3 p g b)) (AllCome L (mostF L m) h0) (fun _ => True) 1048576 w := fun l J Jx W hW hJ _ hY hJ0 =>
  blocks1_in n hn l bh bs b p g L h0 hh m hm1 hm2 J Jx W hJ hY ((hW.cell (p := ⟨bh, 0, none⟩) (World.block_lt_of_cell? w _ hbh)).trans hbh) ((hW.cell (p := ⟨bs, 0, none⟩) (World.block_lt_of_cell? w _ hbs)).trans hbs) ((hW.cell (p := ⟨b, 0, none⟩) (World.block_lt_of_cell? w _ hb)).trans hb) (hm.upd (updFalse_of hW) id id) hJ0
end Go.Proofs.Ytmnnmgphiiedgaa
