/- The landed rows' push, remove, fill, wake: walked over whatever cut, add and find are known to do. -/
import Derived.Test.YtolccandekgmoaaQMap
import Derived.Test.YtolccandekgmoaaPtrN
namespace Go.Proofs.Ytolccandekgmoaa
open Go.RowKit Go.Maps QueueMath
set_option linter.unusedVariables false

abbrev RW : Nat := 33
section
variable {w : World} {rb mb k o : Nat} {x : Int} {t : TypeId} {cs : Array Value}
set_option maxRecDepth 100000 in
theorem push_there1 (FN : Calls Try.prog 33 #[.pointer (some ⟨rb, 0, none⟩), .int .i64 x] w fun e w' => e = .returned (.pointer (some ⟨k, 0, none⟩)) ∧ w = w') :
    Calls Try.prog 30 #[.pointer (some ⟨rb, 0, none⟩), .int .i64 x] w fun e w' => e = .returned (.int .i64 6) ∧ w = w' := by
  have FN := Lib.hid FN
  go_enter Try.func30, Try.ntmps30
  go_wp2_with fail
  refine FN.out.mono ?_; rintro e w1 ⟨rfl, rfl⟩
  go_wp2
  go_ret
  exact ⟨rfl, rfl⟩
set_option maxRecDepth 100000 in
set_option maxHeartbeats 1000000 in
theorem push_new1 {n : Nat} {D : DataW Unit} {Q : World → Prop} (hx : I64 x) (FN : Calls Try.prog 33 #[.pointer (some ⟨rb, 0, none⟩), .int .i64 x] w fun e w' => e = .returned (.pointer none) ∧ w = w')
    (c4 : w.cell? ⟨rb, 4, none⟩ = some (.map (some mb))) (hD : w.ownsMap Try.prog 3 spElem mb n D) (hn : n ≤ many) (hk : k = w.heap.size)
    (AD : ∀ w2, w2.ownsMap Try.prog 3 spElem mb (n + 1) (D.put (.int .i64 x) (.lit (.int .i64 (k : Int)))) → (w.alloc (.cells #[.int .i64 x, .pointer none, .pointer none, .pointer none] 60)).mapTurned w2 mb →
      Calls Try.prog 35 #[.pointer (some ⟨rb, 0, none⟩), .pointer (some ⟨k, 0, none⟩)] w2 fun e w' => e = .returned (.tuple #[]) ∧ Q w') :
    Calls Try.prog 30 #[.pointer (some ⟨rb, 0, none⟩), .int .i64 x] w fun e w' => e = .returned (.int .i64 0) ∧ Q w' := by
  subst hk
  have hn' : n ≤ 1000000 := hn
  have KEY := Lib.hid (keyOf_int_mk (P := Try.prog) Try.underlying3 hx.wf)
  have VAL := Lib.hid (show spElem (.pointer (some ⟨w.heap.size, 0, none⟩)) = some (.lit (.int .i64 (w.heap.size : Int)), []) from rfl)
  have FN := Lib.hid FN; have M := Lib.hid (hD.alloc (.cells #[.int .i64 x, .pointer none, .pointer none, .pointer none] 60)); have AD := Lib.hid AD
  have hlt : w.heap.size ≠ rb := fun e => by have := World.block_lt_of_cell? w _ c4; simp only at this; omega
  have c4' : (w.alloc (.cells #[.int .i64 x, .pointer none, .pointer none, .pointer none] 60)).cell? ⟨rb, 4, none⟩ = some (.map (some mb)) := by rw [Below.cell ((Below.refl _ w).alloc (Nat.le_refl _) _) (by have := World.block_lt_of_cell? w _ c4; exact this)]; exact c4
  clear hD hn
  go_enter Try.func30, Try.ntmps30
  go_wp2_with fail
  refine FN.out.mono ?_; rintro e w1 ⟨rfl, rfl⟩
  go_wp2_with (at_mapUpdate; refine wpList_mapUpdate_in _ rfl _ _ _ 48 rfl 3 49 keyQ Try.underlying48 _ mb n D rfl M.out (by unfold maxLen; omega) _ _ _ rfl rfl KEY.out _ [] VAL.out ?_; intro w9 hown1 hturn1; have K9 := Lib.hid (AD.out w9 hown1 hturn1); clear hown1 hturn1)
  go_wp2_with fail
  refine K9.out.mono ?_; rintro e w2 ⟨rfl, hq⟩
  have HQ := Lib.hid hq
  clear hq
  go_wp2
  go_ret
  exact ⟨rfl, HQ.out⟩
set_option maxRecDepth 100000 in
theorem remove_none1 {p : Option Addr} (FN : Calls Try.prog 33 #[.pointer p, .int .i64 x] w fun e w' => e = .returned (.pointer none) ∧ w = w') :
    Calls Try.prog 26 #[.pointer p, .int .i64 x] w fun e w' => e = .returned (.int .i64 5) ∧ w = w' := by
  have FN := Lib.hid FN
  go_enter Try.func26, Try.ntmps26
  go_wp2_with fail
  refine FN.out.mono ?_; rintro e w1 ⟨rfl, rfl⟩
  go_wp2
  go_ret
  exact ⟨rfl, rfl⟩
set_option maxRecDepth 100000 in
set_option maxHeartbeats 1000000 in
theorem remove_there1 {n : Nat} {D : DataW Unit} {Q Q' : World → Prop} (hx : I64 x) (FN : Calls Try.prog 33 #[.pointer (some ⟨rb, 0, none⟩), .int .i64 x] w fun e w' => e = .returned (.pointer (some ⟨k, 0, none⟩)) ∧ w = w')
    (c1 : w.cell? ⟨k, 1, none⟩ = some (.pointer (some ⟨rb, o, none⟩)))
    (CT : Calls Try.prog 34 #[.pointer (some ⟨rb, o, none⟩), .pointer (some ⟨k, 0, none⟩)] w fun e w' => e = .returned (.tuple #[]) ∧ Q w')
    (hQ : ∀ w1, Q w1 → w1.cell? ⟨rb, 4, none⟩ = some (.map (some mb)) ∧ w1.ownsMap Try.prog 3 spElem mb n D)
    (hQ' : ∀ w1 w2, Q w1 → w2.ownsMap Try.prog 3 spElem mb n (D.del (.int .i64 x)) → w1.mapTurned w2 mb → Q' w2) :
    Calls Try.prog 26 #[.pointer (some ⟨rb, 0, none⟩), .int .i64 x] w fun e w' => e = .returned (.int .i64 0) ∧ Q' w' := by
  have KEY := Lib.hid (keyOf_int_mk (P := Try.prog) Try.underlying3 hx.wf)
  have FN := Lib.hid FN; have CT := Lib.hid CT; have HQ := Lib.hid hQ; have HQ' := Lib.hid hQ'
  clear hQ hQ'
  go_enter Try.func26, Try.ntmps26
  go_wp2_with fail
  refine FN.out.mono ?_; rintro e w1 ⟨rfl, rfl⟩
  go_wp2_with fail
  refine CT.out.mono ?_; rintro e w2 ⟨rfl, hq⟩
  obtain ⟨c4, hD⟩ := HQ.out w2 hq
  have Q2 := Lib.hid hq; have M := Lib.hid hD
  clear hq hD c1
  go_wp2_with (at_delete; refine wpList_delete_own _ rfl _ _ 48 3 rfl 49 keyQ Try.underlying48 _ mb n D rfl M.out _ _ rfl KEY.out ?_; intro w9 hown1 hturn1; have K9 := Lib.hid (HQ'.out w2 w9 Q2.out hown1 hturn1); clear hown1 hturn1)
  go_wp2
  go_ret
  exact ⟨rfl, K9.out⟩
theorem neq_rows {w : World} {a b : Addr} {ta tb : TypeId} {ca cb : Array Value} (hb : Blk w b.block tb cb) (ha : Blk w a.block ta ca) (hne : a ≠ b) :
    (binOp .neq 58 (.pointer (some a)) (.pointer (some b))).run Try.prog w = .ok (.bool true) w := by
  have hi : (Try.prog.info? 51).map (fun j => j.size) = some 2 := by kernel_rfl
  cases hj : Try.prog.info? 51 with
  | none => rw [hj] at hi; cases hi
  | some j =>
    rw [hj] at hi
    exact run_neq_ptr_other Try.underlying58 hj (by simp at hi; omega) hne ha hb
theorem eq_rows (w : World) (a : Addr) : (binOp .neq 58 (.pointer (some a)) (.pointer (some a))).run Try.prog w = .ok (.bool false) w := by
  have hi : (Try.prog.info? 51).map (fun j => j.size) = some 2 := by kernel_rfl
  cases hj : Try.prog.info? 51 with
  | none => rw [hj] at hi; cases hi
  | some j => exact run_neq_ptr_same a Try.underlying58 hj
set_option maxRecDepth 100000 in
theorem fill_none1 {p : Option Addr} (FN : Calls Try.prog 33 #[.pointer p, .int .i64 x] w fun e w' => e = .returned (.pointer none) ∧ w = w') :
    Calls Try.prog 28 #[.pointer p, .int .i64 x] w fun e w' => e = .returned (.int .i64 5) ∧ Upd (fun _ => False) w w' := by
  have FN := Lib.hid FN
  go_enter Try.func28, Try.ntmps28
  go_wp2_with fail
  refine FN.out.mono ?_; rintro e w1 ⟨rfl, rfl⟩
  go_wp2
  go_quiet (fail)
  go_wp2
  go_ret
  exact ⟨rfl, ⟨rfl, rfl, rfl, Nat.le_refl _, fun _ _ _ => rfl⟩⟩
set_option maxRecDepth 100000 in
set_option maxHeartbeats 1000000 in
theorem fill_other1 (FN : Calls Try.prog 33 #[.pointer (some ⟨rb, 0, none⟩), .int .i64 x] w fun e w' => e = .returned (.pointer (some ⟨k, 0, none⟩)) ∧ w = w')
    (c1 : w.cell? ⟨k, 1, none⟩ = some (.pointer (some ⟨rb, 2, none⟩))) (hb : Blk w rb t cs) :
    Calls Try.prog 28 #[.pointer (some ⟨rb, 0, none⟩), .int .i64 x] w fun e w' => e = .returned (.int .i64 5) ∧ Upd (fun _ => False) w w' := by
  have NE := neq_rows (w := w.drew) (b := ⟨rb, 0, none⟩) hb (a := ⟨rb, 2, none⟩) hb (by simp)
  have FN := Lib.hid FN
  go_enter Try.func28, Try.ntmps28
  go_wp2_with fail
  refine FN.out.mono ?_; rintro e w1 ⟨rfl, rfl⟩
  go_wp2
  go_region_held3 (fun w' => w'.cell? ⟨k, 1, none⟩ = some (.pointer (some ⟨rb, 2, none⟩)) ∧ (binOp .neq 58 (.pointer (some ⟨rb, 2, none⟩)) (.pointer (some ⟨rb, 0, none⟩))).run Try.prog w' = .ok (.bool true) w') (first | go_keep | exact ⟨c1, NE⟩) (fail)
  go_wp2
  go_ret
  exact ⟨rfl, ⟨rfl, rfl, rfl, Nat.le_refl _, fun _ _ _ => rfl⟩⟩
set_option maxRecDepth 100000 in
set_option maxHeartbeats 1000000 in
theorem fill_there1 {Q Q' : World → Prop} (FN : Calls Try.prog 33 #[.pointer (some ⟨rb, 0, none⟩), .int .i64 x] w fun e w' => e = .returned (.pointer (some ⟨k, 0, none⟩)) ∧ w = w')
    (c1 : w.cell? ⟨k, 1, none⟩ = some (.pointer (some ⟨rb, 0, none⟩)))
    (CT : Calls Try.prog 34 #[.pointer (some ⟨rb, 0, none⟩), .pointer (some ⟨k, 0, none⟩)] w.drew fun e w' => e = .returned (.tuple #[]) ∧ Q w')
    (AD : ∀ w1, Q w1 → Calls Try.prog 35 #[.pointer (some ⟨rb, 2, none⟩), .pointer (some ⟨k, 0, none⟩)] w1 fun e w' => e = .returned (.tuple #[]) ∧ Q' w') :
    Calls Try.prog 28 #[.pointer (some ⟨rb, 0, none⟩), .int .i64 x] w fun e w' => e = .returned (.int .i64 0) ∧ Q' w' := by
  have NE := eq_rows w.drew ⟨rb, 0, none⟩
  have FN := Lib.hid FN; have CT := Lib.hid CT; have AD := Lib.hid AD
  go_enter Try.func28, Try.ntmps28
  go_wp2_with fail
  refine FN.out.mono ?_; rintro e w1 ⟨rfl, rfl⟩
  go_wp2
  go_region_held3 (fun w' => w'.cell? ⟨k, 1, none⟩ = some (.pointer (some ⟨rb, 0, none⟩)) ∧ (binOp .neq 58 (.pointer (some ⟨rb, 0, none⟩)) (.pointer (some ⟨rb, 0, none⟩))).run Try.prog w' = .ok (.bool false) w') (first | go_keep | exact ⟨c1, NE⟩) (fail)
  go_wp2_with fail
  refine CT.out.mono ?_; rintro e w2 ⟨rfl, hq⟩
  have K2 := Lib.hid (AD.out w2 hq)
  clear hq
  go_wp2_with fail
  refine K2.out.mono ?_; rintro e w3 ⟨rfl, hq⟩
  have Q3 := Lib.hid hq
  clear hq
  go_wp2
  go_ret
  exact ⟨rfl, Q3.out⟩
set_option maxRecDepth 100000 in
theorem wake_none1 {p : Option Addr} (FN : Calls Try.prog 33 #[.pointer p, .int .i64 x] w fun e w' => e = .returned (.pointer none) ∧ w = w') :
    Calls Try.prog 29 #[.pointer p, .int .i64 x] w fun e w' => e = .returned (.int .i64 5) ∧ Upd (fun _ => False) w w' := by
  have FN := Lib.hid FN
  go_enter Try.func29, Try.ntmps29
  go_wp2_with fail
  refine FN.out.mono ?_; rintro e w1 ⟨rfl, rfl⟩
  go_wp2
  go_quiet (fail)
  go_wp2
  go_ret
  exact ⟨rfl, ⟨rfl, rfl, rfl, Nat.le_refl _, fun _ _ _ => rfl⟩⟩
set_option maxRecDepth 100000 in
set_option maxHeartbeats 1000000 in
theorem wake_other1 (FN : Calls Try.prog 33 #[.pointer (some ⟨rb, 0, none⟩), .int .i64 x] w fun e w' => e = .returned (.pointer (some ⟨k, 0, none⟩)) ∧ w = w')
    (c1 : w.cell? ⟨k, 1, none⟩ = some (.pointer (some ⟨rb, 0, none⟩))) (hb : Blk w rb t cs) :
    Calls Try.prog 29 #[.pointer (some ⟨rb, 0, none⟩), .int .i64 x] w fun e w' => e = .returned (.int .i64 5) ∧ Upd (fun _ => False) w w' := by
  have NE := neq_rows (w := w.drew) (b := ⟨rb, 2, none⟩) hb (a := ⟨rb, 0, none⟩) hb (by simp)
  have FN := Lib.hid FN
  go_enter Try.func29, Try.ntmps29
  go_wp2_with fail
  refine FN.out.mono ?_; rintro e w1 ⟨rfl, rfl⟩
  go_wp2
  go_region_held3 (fun w' => w'.cell? ⟨k, 1, none⟩ = some (.pointer (some ⟨rb, 0, none⟩)) ∧ (binOp .neq 58 (.pointer (some ⟨rb, 0, none⟩)) (.pointer (some ⟨rb, 2, none⟩))).run Try.prog w' = .ok (.bool true) w') (first | go_keep | exact ⟨c1, NE⟩) (fail)
  go_wp2
  go_ret
  exact ⟨rfl, ⟨rfl, rfl, rfl, Nat.le_refl _, fun _ _ _ => rfl⟩⟩
set_option maxRecDepth 100000 in
set_option maxHeartbeats 1000000 in
theorem wake_there1 {Q Q' : World → Prop} (FN : Calls Try.prog 33 #[.pointer (some ⟨rb, 0, none⟩), .int .i64 x] w fun e w' => e = .returned (.pointer (some ⟨k, 0, none⟩)) ∧ w = w')
    (c1 : w.cell? ⟨k, 1, none⟩ = some (.pointer (some ⟨rb, 2, none⟩)))
    (CT : Calls Try.prog 34 #[.pointer (some ⟨rb, 2, none⟩), .pointer (some ⟨k, 0, none⟩)] w.drew fun e w' => e = .returned (.tuple #[]) ∧ Q w')
    (AD : ∀ w1, Q w1 → Calls Try.prog 35 #[.pointer (some ⟨rb, 0, none⟩), .pointer (some ⟨k, 0, none⟩)] w1 fun e w' => e = .returned (.tuple #[]) ∧ Q' w') :
    Calls Try.prog 29 #[.pointer (some ⟨rb, 0, none⟩), .int .i64 x] w fun e w' => e = .returned (.int .i64 0) ∧ Q' w' := by
  have NE := eq_rows w.drew ⟨rb, 2, none⟩
  have FN := Lib.hid FN; have CT := Lib.hid CT; have AD := Lib.hid AD
  go_enter Try.func29, Try.ntmps29
  go_wp2_with fail
  refine FN.out.mono ?_; rintro e w1 ⟨rfl, rfl⟩
  go_wp2
  go_region_held3 (fun w' => w'.cell? ⟨k, 1, none⟩ = some (.pointer (some ⟨rb, 2, none⟩)) ∧ (binOp .neq 58 (.pointer (some ⟨rb, 2, none⟩)) (.pointer (some ⟨rb, 2, none⟩))).run Try.prog w' = .ok (.bool false) w') (first | go_keep | exact ⟨c1, NE⟩) (fail)
  go_wp2_with fail
  refine CT.out.mono ?_; rintro e w2 ⟨rfl, hq⟩
  have K2 := Lib.hid (AD.out w2 hq)
  clear hq
  go_wp2_with fail
  refine K2.out.mono ?_; rintro e w3 ⟨rfl, hq⟩
  have Q3 := Lib.hid hq
  clear hq
  go_wp2
  go_ret
  exact ⟨rfl, Q3.out⟩
end
end Go.Proofs.Ytolccandekgmoaa
