/- The law StackMoves, walked (written by genmoves13.py). -/
import Derived.Test.YtgaecgijmnkdgaaAlive13
import Derived.Test.YtgaecgijmnkdgaaTwoK13
import Derived.Deep.CutBlock
import Derived.Deep.DeepCutAuto
namespace Go.Proofs.Ytgaecgijmnkdgaa.stackMoves
open Go.RowKit StackMath
set_option linter.unusedVariables false
set_option maxRecDepth 100000

def zR67 : Array Value := #[.slice none 0 0, .int .u64 0, .int .i64 0, .int .i64 0, .int .i64 0, .int .i64 0, .int .i64 0, .int .i64 0, .int .i64 0, .int .i64 0, .int .i64 0, .int .i64 0, .int .i64 0, .int .i64 0, .int .i64 0, .int .i64 0, .int .i64 0, .int .i64 0, .int .i64 0, .int .i64 0, .int .i64 0, .int .i64 0, .int .i64 0, .int .i64 0, .int .i64 0, .int .i64 0, .int .i64 0, .int .i64 0, .int .i64 0, .int .i64 0, .int .i64 0, .int .i64 0, .int .i64 0, .int .i64 0, .int .i64 0, .int .i64 0, .int .i64 0, .int .i64 0, .int .i64 0, .int .i64 0, .int .i64 0, .int .i64 0, .int .i64 0, .int .i64 0, .int .i64 0, .int .i64 0, .int .i64 0, .int .i64 0, .int .i64 0, .int .i64 0, .int .i64 0, .int .i64 0, .int .i64 0, .int .i64 0, .int .i64 0, .int .i64 0, .int .i64 0, .int .i64 0, .int .i64 0, .int .i64 0, .int .i64 0, .int .i64 0, .int .i64 0, .int .i64 0, .int .i64 0, .int .i64 0, .int .i64 0]
theorem zero_ref : ∀ w, (zeroValue 51).run Try.prog w = .ok (.agg zR67) w := fun w => by kernel_rfl
theorem newRef (w : World) : Calls Try.prog 10 #[] w fun e w' => e = .returned (.pointer (some ⟨w.heap.size, 0, none⟩)) ∧ RS w' w.heap.size (.slice none 0 0) s0 ∧ Below w.heap.size w w' ∧ w'.heap.size = w.heap.size + 1 := by
  have ZR := zero_ref
  go_enter Try.func10, Try.ntmps10
  go_wp2
  go_ret
  exact ⟨rfl, ⟨_, Blk.new w _ _, rfl, rfl, rfl, Vec.nil _, fun k hk => by cases hk⟩, (Below.refl _ _).alloc (Nat.le_refl _) _, World.size_alloc _ _⟩
theorem act13 {w : World} {a : Option Addr} {n cap len : Nat} {F : Nat → Nat → Value} (h : Recs w (.slice a n cap) [.num .i64, .num .i64, .num .i64] len F) {i : Nat} (hi : i < len) :
    ∃ b off k x y, a = some ⟨b, off, none⟩ ∧ (Lit.int .i64 x).wf = true ∧ (Lit.int .i64 y).wf = true ∧ ∀ w', Below w.heap.size w w' → w'.cell? ⟨b, off + i * 3, none⟩ = some (.int .i64 k) ∧ w'.cell? ⟨b, off + i * 3 + 1, none⟩ = some (.int .i64 x) ∧ w'.cell? ⟨b, off + i * 3 + 2, none⟩ = some (.int .i64 y) := by
  obtain ⟨b, off, rfl, hc⟩ := h.elem hi
  have c0 := hc 0 (by simp)
  have c1 := hc 1 (by simp)
  have c2 := hc 2 (by simp)
  have l0 := leaf_int (h.leaf hi 0 _ rfl)
  have l1 := leaf_int (h.leaf hi 1 _ rfl)
  have l2 := leaf_int (h.leaf hi 2 _ rfl)
  rw [l0.1] at c0
  rw [l1.1] at c1
  rw [l2.1] at c2
  have hct : ∀ {q : Addr} {v : Value} {w' : World}, w.cell? q = some v → Below w.heap.size w w' → w'.cell? q = some v := fun {q v w'} h hb => (hb.cell (p := q) (World.block_lt_of_cell? w _ h)).trans h
  exact ⟨b, off, _, _, _, rfl, l1.2, l2.2, fun w' hb => ⟨hct c0 hb, hct c1 hb, hct c2 hb⟩⟩
def ActR (w : World) (s q n : Nat) (pv i : Value) (wr : World) : Prop :=
  ∃ (j : Nat) (S : SS) (ms : Mvs) (nbs : List Nat) (v : Value), j ≤ n ∧ i = .int .i64 (j : Int) ∧ TM w s q S ms S ms nbs v pv wr ∧ S.n ≤ j ∧ ms.length ≤ j
/-- Behind an act. -/
def Al (w : World) (s q j : Nat) (pv : Value) (wx : World) : Prop :=
  ∃ (S : SS) (ms : Mvs) (nbs : List Nat) (v : Value), TM w s q S ms S ms nbs v pv wx ∧ S.n ≤ j + 1 ∧ ms.length ≤ j + 1
theorem zip_len {ms : Mvs} {nbs : List Nat} (h : nbs.length = ms.length) : ((ms.map (·.1)).zip nbs).length = ms.length := by rw [List.length_zip, List.length_map, h, Nat.min_self]
set_option maxHeartbeats 4000000 in
theorem walk_short (w : World) {a : Option Addr} {n cap : Nat} (F : Nat → Nat → Value) (hr : Recs w (.slice a n cap) [.num .i64, .num .i64, .num .i64] n F) (hl : n ≤ 200) :
    Calls Try.prog 3 #[.slice a n cap] w fun e w' => e = .returned (.bool true) ∧ Below w.heap.size w w' := by
  have HR := Lib.hid hr
  have t0 : decide ((200 : Int) < (n : Int)) = false := decide_eq_false (by omega)
  have ZS := zero_stack
  obtain ⟨i0, hi, hz0, hz1, hz2⟩ := info_parts infoPr
  clear hr
  go_enter Try.func3, Try.ntmps3
  go_wp2_with fail
  refine (alive_any w).mono ?_; rintro e w1 ⟨rfl, hb⟩
  obtain ⟨W, hW, hf, hb2, hs2⟩ := fs_new (w := w) hb
  obtain ⟨s, hss⟩ : ∃ z, w1.heap.size = z := ⟨_, rfl⟩
  rw [hss] at hf hs2
  have HF := Lib.hid hf; have HS2 := Lib.hid hs2
  clear hf hb2 hb hs2
  go_wp2_with fail
  refine (newRef W).mono ?_; rintro e w2 ⟨rfl, h2, hb2, _⟩
  obtain ⟨q, hq⟩ : ∃ z, W.heap.size = z := ⟨_, rfl⟩
  rw [hq] at h2 ⊢
  have hsq : s ≠ q := by have := HS2.out; omega
  have I0 := Lib.hid (show ActR w s q n (.slice none 0 0) (.int .i64 0) w2 from ⟨0, s0, [], [], _, Nat.zero_le _, rfl, ⟨HF.out.grew hb2, h2, fun i y b hi => by simp at hi, ⟨rfl, rfl⟩, Vec.nil _, fun i j b hi => by simp at hi, ⟨fun k => if k = s then 0 else 2, if_pos rfl, (fun x hx => by cases hx), if_neg (fun e => hsq e.symm), (fun b hb => by cases hb), (fun k hk => by cases hk), (fun k hk => by cases hk)⟩, by have := HF.out.below.size; omega, (fun b hb => by cases hb), (fun k hk => by cases hk), (fun k hk => by cases hk)⟩, Nat.le_refl _, Nat.le_refl _⟩)
  clear h2 hb2 hsq
  go_wp2
  go_loopw [5, 23] (fun pv i wr => ActR w s q n pv i wr) (fun pv i _ => n - (intOf i).toNat)
  case atStart => exact I0.out
  case round =>
    clear I0 hW hss hq HF HS2
    obtain ⟨j, S, ms, nbs, v, hj, rfl, hT, hn, hml⟩ := hrel
    obtain ⟨a1, c1, rfl, hc1, hc2⟩ := hT.vp.slice'
    rw [zip_len hT.len.1] at hT hc1 ⊢
    obtain ⟨k1, hk1⟩ : ∃ z, ms.length = z := ⟨_, rfl⟩
    rw [hk1] at hT hc1 hml ⊢
    have HK1 := Lib.hid hk1
    by_cases hjn : j < n
    · obtain ⟨b2, off2, k, x, y, ea, hx, hy, hcl⟩ := act13 HR.out hjn
      obtain ⟨m0, m1, m2⟩ := hcl wr hT.fs.below
      subst ea
      obtain ⟨bc, hbc⟩ : ∃ z, wr.heap.size = z := ⟨_, rfl⟩
      have bA := Blk.new wr 34 #[.int .i64 k, .int .i64 x, .int .i64 y]
      have hT1 := hT.alloc (.cells #[.int .i64 k, .int .i64 x, .int .i64 y] 34)
      have hgr : Below wr.heap.size wr (wr.alloc (.cells #[.int .i64 k, .int .i64 x, .int .i64 y] 34)) := (Below.refl _ wr).alloc (Nat.le_refl _) _
      obtain ⟨W1, hW1⟩ : ∃ z, wr.alloc (.cells #[.int .i64 k, .int .i64 x, .int .i64 y] 34) = z := ⟨_, rfl⟩
      rw [hW1] at bA hT1 hgr
      rw [hbc] at bA
      have BA := Lib.hid bA; have TM1 := Lib.hid hT1
      have d0 : W1.cell? ⟨bc, 0, none⟩ = some (.int .i64 k) := bA.cell 0
      have d1 : W1.cell? ⟨bc, 1, none⟩ = some (.int .i64 x) := bA.cell 1
      have d2 : W1.cell? ⟨bc, 2, none⟩ = some (.int .i64 y) := bA.cell 2
      have HN := Lib.hid (And.intro hn hml)
      have HX := Lib.hid hx; have HY := Lib.hid hy
      have t2 : decide ((j : Int) < (n : Int)) = true := decide_eq_true (by omega)
      have t2' : decide (j < n) = true := decide_eq_true hjn
      have q3 : (0 : Int) ≤ (j : Int) := by omega
      have q4 : (j : Int) < (n : Int) := by omega
      have hmany : S.n ≤ 1000 := by omega
      have HM := Lib.hid hmany
      have HK9 := Lib.hid (show k1 ≤ 200 by omega)
      clear hT hT1 bA hn hml hcl hgr hmany hx hy hk1
      go_upto_block 2 with fail
      clear hW1 hbc m0 m1 m2
      go_cut [5] (fun pv wx => Al w s q j pv wx)
      case first =>
        by_cases hk0 : k = 0
        · subst hk0
          have e0 : ((0 : Int) == 0) = true := rfl
          by_cases hbad : x < 0 ∨ 63 < x
          · as_aux_lemma =>
            have P := Lib.hid (newPush_bad W1 (s := s) (o := 0) (p := x) (by omega))
            have Q : Hid (Al w s q j (.slice a1 k1 c1) W1) := Lib.hid ⟨S, ms, nbs, v, TM1.out, by have := HN.out.1; omega, by have := HN.out.2; have := HK1.out; omega⟩
            rcases hbad with hb | hb
            · have t5 : decide (x < 0) = true := decide_eq_true hb
              clear hb
              go_wp2_with fail
              refine P.out.mono ?_; rintro e w6 ⟨rfl, k⟩; obtain rfl := k.symm; clear k
              go_wp2
              go_meet
              exact Q.out
            · have t5 : decide (x < 0) = false := decide_eq_false (by omega)
              have t6 : decide (63 < x) = true := decide_eq_true hb
              clear hb
              go_wp2_with fail
              refine P.out.mono ?_; rintro e w6 ⟨rfl, k⟩; obtain rfl := k.symm; clear k
              go_wp2
              go_meet
              exact Q.out
          · as_aux_lemma =>
            obtain ⟨p, rfl⟩ := Int.eq_ofNat_of_zero_le (show 0 ≤ x by omega)
            have hp64 : p < 64 := by omega
            have t5 : decide ((p : Int) < 0) = false := decide_eq_false (by omega)
            have t6 : decide ((63 : Int) < (p : Int)) = false := decide_eq_false (by omega)
            clear hbad
            go_wp2_with fail
            refine (newPush W1 hp64).mono ?_; rintro e w6 ⟨rfl, hk, hb6, hs6⟩
            obtain ⟨m, hm⟩ : ∃ z, W1.heap.size = z := ⟨_, rfl⟩
            rw [hm] at hk hs6 ⊢
            obtain ⟨b, hb⟩ : ∃ z, w6.heap.size = z := ⟨_, rfl⟩
            have CSX : rmC q (mPush p) = #[.pointer (some ⟨q, 0, none⟩), .int .i64 (p : Int), .int .i64 0, .int .u64 0, .bool false, .bool false, .bool false] := rfl
            have T6 := TM1.out.grew hb6
            have bA6 := Blk.grew BA.out hb6
            have x0 : w6.cell? ⟨bc, 0, none⟩ = some (.int .i64 0) := bA6.cell 0
            have x1 : w6.cell? ⟨bc, 1, none⟩ = some (.int .i64 (p : Int)) := bA6.cell 1
            have kB := Blk.new w6 41 #[.pointer (some ⟨q, 0, none⟩), .int .i64 (p : Int), .int .i64 0, .int .u64 0, .bool false, .bool false, .bool false]
            have g7 : Below w6.heap.size w6 (w6.alloc (.cells #[.pointer (some ⟨q, 0, none⟩), .int .i64 (p : Int), .int .i64 0, .int .u64 0, .bool false, .bool false, .bool false] 41)) := (Below.refl _ _).alloc (Nat.le_refl _) _
            obtain ⟨W7, hW7⟩ : ∃ z, w6.alloc (.cells #[.pointer (some ⟨q, 0, none⟩), .int .i64 (p : Int), .int .i64 0, .int .u64 0, .bool false, .bool false, .bool false] 41) = z := ⟨_, rfl⟩
            rw [hW7] at kB g7
            rw [hb] at kB
            have V8 := Lib.hid ((T6.grew g7).vp.alloc (.cells #[.pointer (some ⟨m, 0, none⟩), .pointer (some ⟨b, 0, none⟩)] 43))
            have N1 := Lib.hid (fun g hg => prs_one W7 43 m b g hg)
            have HL := Lib.hid (show ((ms.map (·.1)).zip nbs).length = k1 by rw [zip_len TM1.out.len.1]; exact HK1.out)
            have G8 := Lib.hid (show Below w6.heap.size w6 (W7.alloc (.cells #[.pointer (some ⟨m, 0, none⟩), .pointer (some ⟨b, 0, none⟩)] 43)) from g7.alloc g7.size _)
            have RB8 := Lib.hid (show RM (W7.alloc (.cells #[.pointer (some ⟨m, 0, none⟩), .pointer (some ⟨b, 0, none⟩)] 43)) b q (mPush p) from (show Blk _ b _ (rmC q (mPush p)) by rw [CSX]; exact kB.alloc _))
            have LTS := Lib.hid (show (∀ x ∈ ms, x.1 ≠ m) ∧ m ≠ s ∧ w.heap.size ≤ m ∧ m ≠ q ∧ (∀ b ∈ nbs, b ≠ m) ∧ (∀ k, In v k → k ≠ m) ∧ ∀ k, In (.slice a1 k1 c1) k → k ≠ m from ⟨fun x hx => by have := TM1.out.fs.mlt hx; omega, by have := TM1.out.fs.lt; omega, by have := TM1.out.fs.below.size; omega, by have := TM1.out.rs.lt; omega, fun b hb => by have := TM1.out.rmlt hb; omega, fun k hk => by have := TM1.out.rs.vec.lt hk; omega, fun k hk => by have := TM1.out.vp.lt hk; omega⟩)
            have MK6 := Lib.hid hk; have T6 := Lib.hid T6; have HB := Lib.hid hb
            have hk9 := HK9.out
            have GMM := Lib.hid (show GoodM S (mPush p) from goodM_push S hp64)
            clear hk hb6 hs6 kB g7 CSX bA6
            go_wp2_with (at_builtin; refine wpList_append_vec (E := Elem.prs) rfl (.tmp 53) (.tmp 61) 32 rfl 43 i0 (.agg #[.pointer none, .pointer none]) 16 Try.underlying32 hi hz0 hz1 hz2 rfl (.slice a1 k1 c1) (.slice (some ⟨W7.heap.size, 0, none⟩) 1 1) ((ms.map (·.1)).zip nbs) [(m, b)] rfl rfl V8.out (N1.out _ rfl) ?_ ?_ ?_; (rw [HL.out]; simp only [maxLen, List.length_cons, List.length_nil]; omega); (rw [HL.out]; simp only [List.length_cons, List.length_nil]; omega); intro v' w9 hv1 hu1 hin1; have V1 := Lib.hid hv1; have U1 := Lib.hid hu1; have I1 := Lib.hid hin1; clear hv1 hu1 hin1)
            have Q : Hid (Al w s q j v' w9) := Lib.hid ⟨S, _, _, v, tm_more T6.out MK6.out GMM.out LTS.out.1 LTS.out.2.1 LTS.out.2.2.1 LTS.out.2.2.2.1 LTS.out.2.2.2.2.1 LTS.out.2.2.2.2.2.1 LTS.out.2.2.2.2.2.2 HB.out.symm G8.out RB8.out V1.out U1.out I1.out, by have := HN.out.1; omega, by rw [List.length_append, List.length_singleton]; have := HN.out.2; have := HK1.out; omega⟩
            go_meet
            exact Q.out
        · by_cases hk2 : k = 1
          · as_aux_lemma =>
            subst hk2
            have e0 : ((1 : Int) == 0) = false := rfl
            have e1 : ((1 : Int) == 1) = true := rfl
            clear hk0
            go_wp2_with fail
            refine (newPop W1).mono ?_; rintro e w6 ⟨rfl, hk, hb6, hs6⟩
            obtain ⟨m, hm⟩ : ∃ z, W1.heap.size = z := ⟨_, rfl⟩
            rw [hm] at hk hs6 ⊢
            obtain ⟨b, hb⟩ : ∃ z, w6.heap.size = z := ⟨_, rfl⟩
            have CSX : rmC q mPop = #[.pointer (some ⟨q, 0, none⟩), .int .i64 (-1), .int .i64 0, .int .u64 0, .bool true, .bool false, .bool false] := rfl
            have T6 := TM1.out.grew hb6
            have bA6 := Blk.grew BA.out hb6
            have x0 : w6.cell? ⟨bc, 0, none⟩ = some (.int .i64 1) := bA6.cell 0
            have x1 : w6.cell? ⟨bc, 1, none⟩ = some (.int .i64 x) := bA6.cell 1
            have kB := Blk.new w6 41 #[.pointer (some ⟨q, 0, none⟩), .int .i64 (-1), .int .i64 0, .int .u64 0, .bool true, .bool false, .bool false]
            have g7 : Below w6.heap.size w6 (w6.alloc (.cells #[.pointer (some ⟨q, 0, none⟩), .int .i64 (-1), .int .i64 0, .int .u64 0, .bool true, .bool false, .bool false] 41)) := (Below.refl _ _).alloc (Nat.le_refl _) _
            obtain ⟨W7, hW7⟩ : ∃ z, w6.alloc (.cells #[.pointer (some ⟨q, 0, none⟩), .int .i64 (-1), .int .i64 0, .int .u64 0, .bool true, .bool false, .bool false] 41) = z := ⟨_, rfl⟩
            rw [hW7] at kB g7
            rw [hb] at kB
            have V8 := Lib.hid ((T6.grew g7).vp.alloc (.cells #[.pointer (some ⟨m, 0, none⟩), .pointer (some ⟨b, 0, none⟩)] 43))
            have N1 := Lib.hid (fun g hg => prs_one W7 43 m b g hg)
            have HL := Lib.hid (show ((ms.map (·.1)).zip nbs).length = k1 by rw [zip_len TM1.out.len.1]; exact HK1.out)
            have G8 := Lib.hid (show Below w6.heap.size w6 (W7.alloc (.cells #[.pointer (some ⟨m, 0, none⟩), .pointer (some ⟨b, 0, none⟩)] 43)) from g7.alloc g7.size _)
            have RB8 := Lib.hid (show RM (W7.alloc (.cells #[.pointer (some ⟨m, 0, none⟩), .pointer (some ⟨b, 0, none⟩)] 43)) b q mPop from (show Blk _ b _ (rmC q mPop) by rw [CSX]; exact kB.alloc _))
            have LTS := Lib.hid (show (∀ x ∈ ms, x.1 ≠ m) ∧ m ≠ s ∧ w.heap.size ≤ m ∧ m ≠ q ∧ (∀ b ∈ nbs, b ≠ m) ∧ (∀ k, In v k → k ≠ m) ∧ ∀ k, In (.slice a1 k1 c1) k → k ≠ m from ⟨fun x hx => by have := TM1.out.fs.mlt hx; omega, by have := TM1.out.fs.lt; omega, by have := TM1.out.fs.below.size; omega, by have := TM1.out.rs.lt; omega, fun b hb => by have := TM1.out.rmlt hb; omega, fun k hk => by have := TM1.out.rs.vec.lt hk; omega, fun k hk => by have := TM1.out.vp.lt hk; omega⟩)
            have MK6 := Lib.hid hk; have T6 := Lib.hid T6; have HB := Lib.hid hb
            have hk9 := HK9.out
            have GMM := Lib.hid (show GoodM S mPop from goodM_pop S)
            clear hk hb6 hs6 kB g7 CSX bA6
            go_wp2_with (at_builtin; refine wpList_append_vec (E := Elem.prs) rfl (.tmp 73) (.tmp 79) 32 rfl 43 i0 (.agg #[.pointer none, .pointer none]) 16 Try.underlying32 hi hz0 hz1 hz2 rfl (.slice a1 k1 c1) (.slice (some ⟨W7.heap.size, 0, none⟩) 1 1) ((ms.map (·.1)).zip nbs) [(m, b)] rfl rfl V8.out (N1.out _ rfl) ?_ ?_ ?_; (rw [HL.out]; simp only [maxLen, List.length_cons, List.length_nil]; omega); (rw [HL.out]; simp only [List.length_cons, List.length_nil]; omega); intro v' w9 hv1 hu1 hin1; have V1 := Lib.hid hv1; have U1 := Lib.hid hu1; have I1 := Lib.hid hin1; clear hv1 hu1 hin1)
            have Q : Hid (Al w s q j v' w9) := Lib.hid ⟨S, _, _, v, tm_more T6.out MK6.out GMM.out LTS.out.1 LTS.out.2.1 LTS.out.2.2.1 LTS.out.2.2.2.1 LTS.out.2.2.2.2.1 LTS.out.2.2.2.2.2.1 LTS.out.2.2.2.2.2.2 HB.out.symm G8.out RB8.out V1.out U1.out I1.out, by have := HN.out.1; omega, by rw [List.length_append, List.length_singleton]; have := HN.out.2; have := HK1.out; omega⟩
            go_meet
            exact Q.out
          · have e0 : ((k : Int) == 0) = false := by rw [beq_eq_false_iff_ne]; exact hk0
            have e1 : ((k : Int) == 1) = false := by rw [beq_eq_false_iff_ne]; exact hk2
            by_cases hz : k1 = 0
            · as_aux_lemma =>
              have e2 : decide ((0 : Int) < (k1 : Int)) = false := decide_eq_false (by omega)
              have e2' : decide (0 < k1) = false := decide_eq_false (by omega)
              have Q : Hid (Al w s q j (.slice a1 k1 c1) W1) := Lib.hid ⟨S, ms, nbs, v, TM1.out, by have := HN.out.1; omega, by have := HN.out.2; have := HK1.out; omega⟩
              go_wp2
              go_meet
              exact Q.out
            · as_aux_lemma =>
              have e2 : decide ((0 : Int) < (k1 : Int)) = true := decide_eq_true (by omega)
              have e2' : decide (0 < k1) = true := decide_eq_true (by omega)
              have e3 : ((k1 : Int) == 0) = false := by rw [beq_eq_false_iff_ne]; omega
              have e3' : ¬ (k1 = 0) := hz
              obtain ⟨r, hr⟩ : ∃ r, Int.tmod y (k1 : Int) = r := ⟨_, rfl⟩
              have hr1 : r < (k1 : Int) := by rw [← hr]; exact Int.tmod_lt_of_pos _ (by omega)
              obtain ⟨z, hzz⟩ : ∃ z : Nat, (if r > 0 then r else 0) = (z : Int) ∧ z < k1 := by
                by_cases h0 : r > 0
                · exact ⟨r.toNat, by rw [if_pos h0]; omega, by omega⟩
                · exact ⟨0, by rw [if_neg h0]; rfl, by omega⟩
              have hmx : ∀ w, (Builtin.max_ #[3, 3] 3 #[.int .i64 0, .int .i64 r]).run Try.prog w = .ok (.int .i64 (z : Int)) w := fun w => by rw [run_max_int2, hzz.1]
              have hz1 : (0 : Int) ≤ (z : Int) := by omega
              have hz2' : (z : Int) < (k1 : Int) := by omega
              have hzl : z < ms.length := by rw [HK1.out]; exact hzz.2
              obtain ⟨⟨m, M⟩, hm⟩ : ∃ y, ms[z]? = some y := ⟨ms[z], List.getElem?_eq_getElem hzl⟩
              obtain ⟨b, hb⟩ : ∃ y, nbs[z]? = some y := ⟨nbs[z]'(by rw [TM1.out.len.1]; exact hzl), List.getElem?_eq_getElem _⟩
              obtain ⟨g3, off3, ea, p0, p1⟩ := prs_at TM1.out.vp.seq (m := m) (b := b) (by rw [List.getElem?_map, hm]; rfl) hb
              subst ea
              obtain ⟨bp, hbp⟩ : ∃ y, W1.heap.size = y := ⟨_, rfl⟩
              have kP := Blk.new W1 43 #[.pointer (some ⟨m, 0, none⟩), .pointer (some ⟨b, 0, none⟩)]
              have hT2 := TM1.out.alloc (.cells #[.pointer (some ⟨m, 0, none⟩), .pointer (some ⟨b, 0, none⟩)] 43)
              obtain ⟨W2, hW2⟩ : ∃ y, W1.alloc (.cells #[.pointer (some ⟨m, 0, none⟩), .pointer (some ⟨b, 0, none⟩)] 43) = y := ⟨_, rfl⟩
              rw [hW2] at kP hT2
              rw [hbp] at kP
              have mlt : m < bp := by have := (TM1.out.fs.mo z _ hm).1.lt; omega
              have blt : b < bp := by have := TM1.out.rmlt (List.mem_of_getElem? hb); omega
              have NE := Lib.hid (show ¬ (bp = m ∨ bp = s) ∧ ¬ (bp = q ∨ bp = b) by have := TM1.out.fs.lt; have := TM1.out.rs.lt; omega)
              have u0 : W2.cell? ⟨bp, 0, none⟩ = some (.pointer (some ⟨m, 0, none⟩)) := kP.cell 0
              have u1 : W2.cell? ⟨bp, 1, none⟩ = some (.pointer (some ⟨b, 0, none⟩)) := kP.cell 1
              have GS := hT2.fs.g
              have GM := (hT2.fs.mo z _ hm).2.1
              obtain ⟨ov, hov⟩ : ∃ y, (!M.over) = y := ⟨_, rfl⟩
              have LA : Hid (∀ S' ms' v' w', TM w s q S ms S' ms' nbs v' (.slice (some ⟨g3, off3, none⟩) k1 c1) w' → Calls Try.prog 13 #[.pointer (some ⟨m, 0, none⟩)] w' fun e w2 => e = .returned (.bool ov) ∧ TM w s q (stepE S M).1 (ms.set z (m, (stepE S M).2)) S' ms' nbs v' (.slice (some ⟨g3, off3, none⟩) k1 c1) w2 ∧ Upd (fun k => k = m ∨ k = s) w' w2) :=
                Lib.hid fun S' ms' v' w' h => by rw [← hov]; exact tm_land h (show S.n ≤ _ by have := HM.out; omega) hm
              have LD : Hid (∀ S' ms' v' w', TM w s q S' ms' S ms nbs v' (.slice (some ⟨g3, off3, none⟩) k1 c1) w' → Calls Try.prog 14 #[.pointer (some ⟨b, 0, none⟩)] w' fun e w2 => e = .returned (.bool ov) ∧ (∃ v2, TM w s q S' ms' (stepE S M).1 (ms.set z (m, (stepE S M).2)) nbs v2 (.slice (some ⟨g3, off3, none⟩) k1 c1) w2) ∧ Upd (fun k => k = q ∨ k = b) w' w2) :=
                Lib.hid fun S' ms' v' w' h => by rw [← hov]; exact tm_doc h GS GM (show S.n ≤ _ by have := HM.out; omega) hm hb
              have KP := Lib.hid kP; have TM2 := Lib.hid hT2
              have oo : ((ov : Bool) != ov) = false := by simp
              have STN := Lib.hid (step_n S M).2
              clear hT2 kP hm hb GS GM hov hzl hzz hr1 mlt blt
              go_wp2_with fail
              clear hmx p0 p1
              go_region_held3 (fun W => W.cell? ⟨bp, 0, none⟩ = some (.pointer (some ⟨m, 0, none⟩)) ∧ W.cell? ⟨bp, 1, none⟩ = some (.pointer (some ⟨b, 0, none⟩))) (first | go_keep | exact ⟨u0, u1⟩)
                (first
                  | (go_at_call 13; (first | (with_reducible refine (LA.out _ _ _ _ TM2.out.drew).mono ?_) | (with_reducible refine (LA.out _ _ _ _ TM2.out).mono ?_)); rintro e w6 ⟨rfl, hh, hu⟩; (first | have kP := Blk.upd KP.out hu NE.out.1 | have kP := Blk.upd (Blk.drew KP.out) hu NE.out.1); have KP := Lib.hid kP; have TM2 := Lib.hid hh; have u0 : w6.cell? ⟨bp, 0, none⟩ = some (.pointer (some ⟨m, 0, none⟩)) := kP.cell 0; have u1 : w6.cell? ⟨bp, 1, none⟩ = some (.pointer (some ⟨b, 0, none⟩)) := kP.cell 1; clear hh hu kP)
                  | (go_at_call 14; (first | (with_reducible refine (LD.out _ _ _ _ TM2.out.drew).mono ?_) | (with_reducible refine (LD.out _ _ _ _ TM2.out).mono ?_)); rintro e w6 ⟨rfl, ⟨v2, hh⟩, hu⟩; (first | have kP := Blk.upd KP.out hu NE.out.2 | have kP := Blk.upd (Blk.drew KP.out) hu NE.out.2); have KP := Lib.hid kP; have TM2 := Lib.hid hh; have u0 : w6.cell? ⟨bp, 0, none⟩ = some (.pointer (some ⟨m, 0, none⟩)) := kP.cell 0; have u1 : w6.cell? ⟨bp, 1, none⟩ = some (.pointer (some ⟨b, 0, none⟩)) := kP.cell 1; clear hh hu kP))
              all_goals
                have Q : Hid (Al w s q j (.slice (some ⟨g3, off3, none⟩) k1 c1) _) := Lib.hid ⟨_, _, nbs, _, TM2.out, by have := STN.out; have := HN.out.1; omega, by rw [List.length_set]; have := HN.out.2; have := HK1.out; omega⟩
                clear u0 u1 TM2 KP
                go_wp2_with fail
                go_meet
                exact Q.out
      case rest =>
        obtain ⟨T, ns, bs, v1, hT, hn1, hl1⟩ := hcut
        obtain ⟨a3, c3, rfl, hc3, hc4⟩ := hT.vp.slice'
        rw [zip_len hT.len.1] at hT hc3 ⊢
        obtain ⟨k3, hk3⟩ : ∃ z, ns.length = z := ⟨_, rfl⟩
        rw [hk3] at hT hc3 hl1 ⊢
        have HK3 := Lib.hid hk3
        have TC := Lib.hid hT
        have HN1 := Lib.hid (And.intro hn1 hl1)
        have hk3n : k3 ≤ 300 := by omega
        have I2 := Lib.hid (show ∃ t : Nat, t ≤ k3 ∧ (Value.int .i64 0) = .int .i64 (t : Int) ∧ Below wc.heap.size wc wc from ⟨0, Nat.zero_le _, rfl, Below.refl _ _⟩)
        clear hT hk3 hn1 hl1 TM1 BA d0 d1 d2 HX HY HK1 HK9 HM
        go_wp2
        go_loopw [103] (fun i wx => ∃ t : Nat, t ≤ k3 ∧ i = .int .i64 (t : Int) ∧ Below wc.heap.size wc wx) (fun i _ => k3 - (intOf i).toNat)
        case atStart => exact I2.out
        case round =>
          clear I2
          obtain ⟨t, ht, rfl, hb⟩ := hrel
          have hT := TC.out.grew hb
          by_cases htk : t < k3
          · have htl : t < ns.length := by rw [HK3.out]; exact htk
            obtain ⟨⟨m, M⟩, hm⟩ : ∃ y, ns[t]? = some y := ⟨ns[t], List.getElem?_eq_getElem htl⟩
            obtain ⟨b, hbb⟩ : ∃ y, bs[t]? = some y := ⟨bs[t]'(by rw [TC.out.len.1]; exact htl), List.getElem?_eq_getElem _⟩
            obtain ⟨g3, off3, ea, p0, p1⟩ := prs_at hT.vp.seq (m := m) (b := b) (by rw [List.getElem?_map, hm]; rfl) hbb
            subst ea
            obtain ⟨bp, hbp⟩ : ∃ y, wr.heap.size = y := ⟨_, rfl⟩
            have kP := Blk.new wr 43 #[.pointer (some ⟨m, 0, none⟩), .pointer (some ⟨b, 0, none⟩)]
            have hT2 := hT.alloc (.cells #[.pointer (some ⟨m, 0, none⟩), .pointer (some ⟨b, 0, none⟩)] 43)
            have hb2 : Below wc.heap.size wc (wr.alloc (.cells #[.pointer (some ⟨m, 0, none⟩), .pointer (some ⟨b, 0, none⟩)] 43)) := hb.alloc hb.size _
            obtain ⟨W2, hW2⟩ : ∃ y, wr.alloc (.cells #[.pointer (some ⟨m, 0, none⟩), .pointer (some ⟨b, 0, none⟩)] 43) = y := ⟨_, rfl⟩
            rw [hW2] at kP hT2 hb2
            rw [hbp] at kP
            have u0 : W2.cell? ⟨bp, 0, none⟩ = some (.pointer (some ⟨m, 0, none⟩)) := kP.cell 0
            have u1 : W2.cell? ⟨bp, 1, none⟩ = some (.pointer (some ⟨b, 0, none⟩)) := kP.cell 1
            have rm := hT2.rm t _ b hm hbb
            have u2 : W2.cell? ⟨b, 1, none⟩ = some (.int .i64 (placeE M)) := rm.c1
            have u3 : W2.cell? ⟨b, 6, none⟩ = some (.bool M.over) := rm.c6
            have mk := (hT2.fs.mo t _ hm).1
            obtain ⟨ov, hov⟩ : ∃ y, M.over = y := ⟨_, rfl⟩
            obtain ⟨pl, hpl⟩ : ∃ y, placeE M = y := ⟨_, rfl⟩
            have D0 : Hid (∀ d, Calls Try.prog 15 #[.pointer (some ⟨m, 0, none⟩)] (W2.drewN d) fun e w'' => e = .returned (.bool ov) ∧ ∃ m, w'' = W2.drewN m) := Lib.hid fun d => by rw [← hov]; exact (done_any _ (show MK (W2.drewN d) m s 0 M from mk)).mono fun e w' ⟨h1, h2⟩ => ⟨h1, d, h2⟩
            have P0 : Hid (∀ d, Calls Try.prog 16 #[.pointer (some ⟨m, 0, none⟩)] (W2.drewN d) fun e w'' => e = .returned (.int .i64 pl) ∧ ∃ m, w'' = W2.drewN m) := Lib.hid fun d => by rw [← hpl]; exact (place_any _ (show MK (W2.drewN d) m s 0 M from mk)).mono fun e w' ⟨h1, h2⟩ => ⟨h1, d, h2⟩
            rw [hpl] at u2
            rw [hov] at u3
            have oo : ((ov : Bool) != ov) = false := by simp
            have pp : ((pl : Int) != pl) = false := by simp
            have NXT := Lib.hid (fun d => (show ∃ u : Nat, u ≤ k3 ∧ (Value.int .i64 ((t + 1 : Nat) : Int)) = .int .i64 (u : Int) ∧ Below wc.heap.size wc (W2.drewN d) from ⟨t + 1, htk, rfl, below_drewN hb2 d⟩))
            rw [show ((t + 1 : Nat) : Int) = (t : Int) + 1 by omega] at NXT
            have q2 : decide ((t : Int) < (k3 : Int)) = true := decide_eq_true (by omega)
            have q2' : decide (t < k3) = true := decide_eq_true htk
            have q5 : (0 : Int) ≤ (t : Int) := by omega
            have q6 : (t : Int) < (k3 : Int) := by omega
            clear hT hT2 hb hb2 kP rm mk hm hbb hov hpl htl
            go_wp2
            clear p0 p1 hW2
            go_quiet (first | with_reducible exact D0.out _ | with_reducible exact P0.out _)
            go_wp2
            go_roundw
            case rel => exact NXT.out _
            case measure => simp [intOf]; omega
          · obtain rfl : t = k3 := by omega
            have q2 : decide ((t : Int) < (t : Int)) = false := decide_eq_false (by omega)
            have hmT : ManyB T := by show T.n ≤ _; have := HN1.out.1; omega
            obtain ⟨av, cv, rfl, hv1, hv2⟩ := hT.rs.vec.slice'
            have hl64 := hT.fs.g.len
            rw [show (toI T.L).length = T.L.length from toI_len _] at hT hv1
            obtain ⟨l, hl⟩ : ∃ z, T.L.length = z := ⟨_, rfl⟩
            rw [hl] at hT hv1 hl64
            have TR := Lib.hid hT
            have d0 := hT.rs.c0
            have d2 := hT.rs.c2
            obtain ⟨nn, hnn⟩ : ∃ z, T.n = z := ⟨_, rfl⟩
            rw [hnn] at d2
            have DOC : Hid (∀ W, Below wr.heap.size wr W → W.cell? ⟨q, 0, none⟩ = some (.slice av l cv) ∧ W.cell? ⟨q, 2, none⟩ = some (.int .i64 (nn : Int)) ∧ Seq Elem.ints W (.slice av l cv) (toI T.L) ∧ FS w s T ns W) :=
              Lib.hid fun W hb => ⟨(TR.out.grew hb).rs.c0, by rw [← hnn]; exact (TR.out.grew hb).rs.c2, (TR.out.grew hb).rs.vec.seq, (TR.out.grew hb).fs⟩
            have ALL : Hid (∀ W, Below wr.heap.size wr W → Calls Try.prog 18 #[.pointer (some ⟨s, 0, none⟩)] W fun e w2 => ∃ a c, e = .returned (.slice a l c) ∧ Seq Elem.ints w2 (.slice a l c) (toI T.L) ∧ Below wr.heap.size wr w2) :=
              Lib.hid fun W hb => (fs_all (DOC.out W hb).2.2.2 hmT).mono fun e w2 ⟨a, c, z1, z2, _, _, z5⟩ => ⟨a, c, by rw [← hl]; exact z1, by rw [← hl]; exact z2, below_then hb hb.size z5⟩
            have SME : Hid (∀ W a c, Below wr.heap.size wr W → Seq Elem.ints W (.slice a l c) (toI T.L) → Calls Try.prog 17 #[.slice a l c, .slice av l cv] W fun e w2 => e = .returned (.bool true) ∧ Below wr.heap.size wr w2) :=
              Lib.hid fun W a c hb h1 => (same11_any W h1 (DOC.out W hb).2.2.1 (by omega) (by omega)).mono fun e w2 ⟨z1, z2⟩ => ⟨by rw [z1, decide_eq_true rfl], below_then hb hb.size z2⟩
            have CEL : Hid (∀ W, Below wr.heap.size wr W → Calls Try.prog 20 #[.pointer (some ⟨s, 0, none⟩)] W fun e w2 => e = .returned (.pointer (some ⟨s, 0, none⟩)) ∧ Below wr.heap.size wr w2) :=
              Lib.hid fun W hb => (cellOf_any W s 0).mono fun e w2 ⟨z1, z2⟩ => ⟨z1, by rw [z2]; exact hb⟩
            have ASK : Hid (∀ W t g, Below wr.heap.size wr W → g = W.heap.size → Calls Try.prog 19 #[.slice (some ⟨g, 0, none⟩) 1 1] (W.alloc (.cells #[.pointer (some ⟨s, 0, none⟩)] t)) fun e w2 => e = .returned (.int .i64 (nn : Int)) ∧ Below wr.heap.size wr w2) :=
              Lib.hid fun W t g hb hg => (fs_asked (DOC.out W hb).2.2.2 hmT t g hg).mono fun e w2 ⟨z1, _, z3⟩ => ⟨by rw [z1, hnn], below_then hb hb.size z3⟩
            have ASKD : Hid (∀ W t g, Below wr.heap.size wr W → g = W.heap.size → Calls Try.prog 19 #[.slice (some ⟨g, 0, none⟩) 1 1] (W.alloc (.cells #[.pointer (some ⟨s, 0, none⟩)] t)).drew fun e w2 => e = .returned (.int .i64 (nn : Int)) ∧ Below wr.heap.size wr w2) :=
              Lib.hid fun W t g hb hg => ASK.out W.drew t g hb.drew hg
            have BW := Lib.hid (Below.refl wr.heap.size wr)
            have tn : ((nn : Int) != (nn : Int)) = false := by simp
            clear hT hb hmT hl hnn hv1 hv2 hl64
            go_wp2_with fail
            go_region_held3 (fun W => W.cell? ⟨q, 0, none⟩ = some (.slice av l cv) ∧ W.cell? ⟨q, 2, none⟩ = some (.int .i64 (nn : Int))) (first | go_keep | exact ⟨d0, d2⟩ | exact ⟨(DOC.out _ (BW.out.alloc BW.out.size _)).1, (DOC.out _ (BW.out.alloc BW.out.size _)).2.1⟩)
              (first
                | (go_at_call 18; (first | (with_reducible refine (ALL.out _ BW.out.drew).mono ?_) | (with_reducible refine (ALL.out _ BW.out).mono ?_)); rintro e w6 ⟨a6, c6, rfl, hv, hb⟩; have VR := Lib.hid hv; have BW := Lib.hid hb; have d0 := (DOC.out _ hb).1; have d2 := (DOC.out _ hb).2.1; clear hv hb)
                | (go_at_call 17; (with_reducible refine (SME.out _ _ _ BW.out VR.out).mono ?_); rintro e w6 ⟨rfl, hb⟩; have BW := Lib.hid hb; have d0 := (DOC.out _ hb).1; have d2 := (DOC.out _ hb).2.1; clear hb)
                | (go_at_call 20; (with_reducible refine (CEL.out _ BW.out).mono ?_); rintro e w6 ⟨rfl, hb⟩; have BW := Lib.hid hb; have d0 := (DOC.out _ hb).1; have d2 := (DOC.out _ hb).2.1; clear hb)
                | (go_at_call 19; (first | (with_reducible refine (ASK.out _ _ _ BW.out rfl).mono ?_) | (with_reducible refine (ASKD.out _ _ _ BW.out rfl).mono ?_)); rintro e w6 ⟨rfl, hb⟩; have BW := Lib.hid hb; have d0 := (DOC.out _ hb).1; have d2 := (DOC.out _ hb).2.1; clear hb))
            all_goals
              have NX : Hid (ActR w s q n (.slice a3 t c3) (.int .i64 ((j + 1 : Nat) : Int)) _) := Lib.hid ⟨j + 1, T, ns, bs, _, hjn, rfl, TR.out.grew BW.out, HN1.out.1, by have := HN1.out.2; have := HK3.out; omega⟩
              rw [show ((j + 1 : Nat) : Int) = (j : Int) + 1 by omega] at NX
              clear d0 d2 BW
              go_wp2
              go_roundw
              case rel => exact NX.out
              case measure => simp [intOf]; omega
    · obtain rfl : j = n := by omega
      have t2 : decide ((j : Int) < (j : Int)) = false := decide_eq_false (by omega)
      have B9 := Lib.hid hT.fs.below
      clear hT
      go_wp2
      go_ret
      exact ⟨rfl, B9.out⟩
theorem walk (w : World) {a : Option Addr} {n cap : Nat} (len : Nat) (F : Nat → Nat → Value) (h : Recs w (.slice a n cap) [.num .i64, .num .i64, .num .i64] len F) :
    Calls Try.prog 3 #[.slice a n cap] w fun e w' => e = .returned (.bool true) ∧ Below w.heap.size w w' := by
  obtain ⟨rfl, hm1, hm2⟩ := h.len
  by_cases hl : n ≤ 200
  · exact walk_short w F h hl
  · have t0 : decide ((200 : Int) < (n : Int)) = true := decide_eq_true (by omega)
    clear h hl
    go_enter Try.func3, Try.ntmps3
    go_wp2_with fail
    refine (alive_any w).mono ?_; rintro e w1 ⟨rfl, hb⟩
    have B1 := Lib.hid hb
    clear hb
    go_wp2
    go_ret
    exact ⟨rfl, B1.out⟩
end Go.Proofs.Ytgaecgijmnkdgaa.stackMoves
