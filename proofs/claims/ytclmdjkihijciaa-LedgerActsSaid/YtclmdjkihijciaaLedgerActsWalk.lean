/- LedgerActs: the walk. (Written by genacts15.py.) -/
import Derived.Test.YtclmdjkihijciaaDocK
namespace Go.Proofs.Ytclmdjkihijciaa
open Go.RowKit LedMath
set_option linter.unusedVariables false
section
variable {P : Program} {ops : Array Oper} {Q : Exit → Act → World → Prop} {md : Region.Mode} {S : World → Prop} {k : Nat}
/-- A call that one alone is, with whatever it hands out. -/
theorem held_callE {fuel : Nat} {listed : Array Bool} {a : Act} {w : World} (i : Nat) {oi : Oper} {rest : List Oper} {f : FuncId} {vs : Array Value} {R : Value → World → Prop} (hi : ops.toList.drop i = oi :: rest) (hr : Region.ready md ops listed = [i])
    (hw : Region.wanted oi (yielded ops a.tmps) = true) (hrun : (execOp a.eval oi).run P w = .ok (.enter f vs) w) (hc : Calls P f vs w fun e w' => ∃ v, e = .returned v ∧ R v w')
    (h : ∀ v w', R v w' → S w' ∧ (S w' → wpAnyH P md ops Q S fuel (listed.setIfInBounds i true) (a.put oi.dst v) w')) : wpAnyH P md ops Q S (fuel + 1) listed a w := by
  refine wpAnyH_ready (rs := [i]) hr (by simp) (AllReadyH.cons (at_drop hi) (fun K hK => ?_) AllReadyH.nil)
  rw [if_pos hw]
  unfold Oper.wp
  rw [hrun, Oper.upon_enter]
  refine hc.mono fun e w' hh => ?_
  obtain ⟨v, rfl, hR⟩ := hh
  obtain ⟨h1, h2⟩ := h v w' hR
  exact hK.out _ _ h1 h2
/-- Number k itself is a call. -/
theorem till_call {n : Nat} {l : Array Bool} {a : Act} {w : World} (i : Nat) (v : Value) {oi : Oper} {rest : List Oper} {f : FuncId} {vs : Array Value} {R : World → Prop} (hi : ops.toList.drop i = oi :: rest) (hr : Region.ready md ops l = [i]) (hk : (l.setIfInBounds i true).getD k true = true)
    (hw : Region.wanted oi (yielded ops a.tmps) = true) (hrun : (execOp a.eval oi).run P w = .ok (.enter f vs) w) (hc : Calls P f vs w fun e w' => e = .returned v ∧ R w')
    (h : ∀ w', R w' → Till P md ops Q S k n (l.setIfInBounds i true) (a.put oi.dst v) w') : Till P md ops Q S k (n + 1) l a w := by
  refine till_one i hi hr fun K hK => ?_
  rw [if_pos hw]
  unfold Oper.wp
  rw [hrun, Oper.upon_enter]
  refine hc.mono fun e w' hh => ?_
  obtain ⟨rfl, hR⟩ := hh
  exact hK _ _ (fun h0 => by rw [hk] at h0; cases h0) (h w' hR)
end
theorem drop_le (L : List En) (x : Nat) : (drop1 L x).2.length ≤ L.length := by
  unfold drop1
  split
  · exact Nat.le_refl _
  · exact List.length_filter_le _ _
theorem set_le (L : List En) (x : Nat) (h : Bool) : (setE L x h).length ≤ L.length := by simp [setE]
theorem hold_le (L : List En) (x : Nat) : (hold1 L x).2.length ≤ L.length := by
  unfold hold1
  split
  · exact Nat.le_refl _
  · split
    · exact Nat.le_refl _
    · exact set_le _ _ _
theorem let_le (L : List En) (x : Nat) : (let1 L x).2.length ≤ L.length := by
  unfold let1
  split
  · exact Nat.le_refl _
  · split
    · exact set_le _ _ _
    · exact Nat.le_refl _
theorem each_le {f : List En → Nat → Nat × List En} (h : ∀ L x, (f L x).2.length ≤ L.length) : ∀ (l : List Nat) (L : List En), (eachE f L l).2.length ≤ L.length
  | [], L => Nat.le_refl _
  | x :: r, L => by
    unfold eachE
    split
    · exact Nat.le_trans (each_le h r _) (h L x)
    · exact h L x
theorem add_le (L : List En) (a n g : Nat) : (addE L a n g).2.length ≤ L.length + 1 := by
  unfold addE
  split
  · split
    · exact Nat.le_succ _
    · exact Nat.le_of_eq (ins_len L _)
  · exact Nat.le_succ _
/-- An act, whatever it is, on both. -/
theorem do_any {w0 w : World} {lb mb : Nat} {T U : Nat → Prop} {L : List En} {sa : Option Addr} {sn sc a n g : Nat} {kk : Int} {xs : List Nat} (h : PL w0 lb mb T U L L w) (hx : Seq Elem.u64s w (.slice sa sn sc) xs) (hs : sn ≤ 9223372036854775807) (lo : 0 < xs.length → ∀ k, In (.slice sa sn sc) k → k < w0.heap.size) (ha : U64B a) (hn : U64B n) (hg : U64B g) (hl : L.length < 1048576) :
    Calls Try.prog 6 #[ptrV lb 0, ptrV mb 0, .agg #[.int .i64 kk, .int .u64 (a : Int), .int .u64 (n : Int), .int .u64 (g : Int), .slice sa sn sc]] w fun r w' => r = .returned (.bool true) ∧ ∃ T' U' L', L'.length ≤ L.length + 1 ∧ PL w0 lb mb T' U' L' L' w' := by
  have le1 : ∀ {f : List En → Nat → Nat × List En}, (∀ L x, (f L x).2.length ≤ L.length) → (eachE f L xs).2.length ≤ L.length + 1 := fun hf => Nat.le_succ_of_le (each_le hf xs L)
  by_cases h1 : kk = 1
  · subst h1; exact (do_drop h hx hs lo).mono fun r w' ⟨e, T', U', p⟩ => ⟨e, T', U', _, le1 drop_le, p⟩
  by_cases h2 : kk = 2
  · subst h2; exact (do_hold h hx hs lo).mono fun r w' ⟨e, T', U', p⟩ => ⟨e, T', U', _, le1 hold_le, p⟩
  by_cases h3 : kk = 3
  · subst h3; exact (do_let h hx hs lo).mono fun r w' ⟨e, T', U', p⟩ => ⟨e, T', U', _, le1 let_le, p⟩
  by_cases h4 : kk = 4
  · subst h4; exact (do_told h hx lo ha hn hg).mono fun r w' ⟨e, T', U', p⟩ => ⟨e, T', U', _, Nat.le_succ _, p⟩
  by_cases h5 : kk = 5
  · subst h5; exact (do_free h hx lo ha hn hg).mono fun r w' ⟨e, T', U', p⟩ => ⟨e, T', U', _, Nat.le_succ _, p⟩
  exact (do_add h hx lo ha hn hg hl (by simpa using h1) (by simpa using h2) (by simpa using h3) (by simpa using h4) (by simpa using h5)).mono fun r w' ⟨e, T', U', p⟩ => ⟨e, T', U', _, add_le _ _ _ _, p⟩
/-- Both new. -/
theorem PL.new (w : World) : PL w w.heap.size (w.heap.size + 1) (fun k => k = w.heap.size) (fun k => k = w.heap.size + 1) [] [] ((w.alloc (.cells #[.slice none 0 0] 27)).alloc (.cells #[.slice none 0 0, .slice none 0 0] 32)) := by
  have b1 := (Below.refl w.heap.size w).alloc (Nat.le_refl _) (.cells #[.slice none 0 0] 27)
  have b2 := (Below.refl (w.alloc (.cells #[.slice none 0 0] 27)).heap.size _).alloc (Nat.le_refl _) (.cells #[.slice none 0 0, .slice none 0 0] 32)
  have bk := Blk.new (w.alloc (.cells #[.slice none 0 0] 27)) 32 #[.slice none 0 0, .slice none 0 0]
  have e : (w.alloc (.cells #[.slice none 0 0] 27)).heap.size = w.heap.size + 1 := World.size_alloc _ _
  rw [e] at bk
  have g0 : GoodL [] := (OL.new w).led.good
  refine ⟨((OL.new w).led.mono fun k hk h => ?_).below b2, ⟨g0, rfl, _, _, bk, Vec.nil _, Vec.nil _, fun k hk => absurd (show none = some k from hk) (fun h => nomatch h), fun k hk => absurd (show none = some k from hk) (fun h => nomatch h)⟩, fun k h1 h2 => by omega, below_then b1 b1.size b2, fun k h => by omega, fun k h => by omega⟩
  rw [e] at hk
  have h' : w.heap.size ≤ k := h
  show k = w.heap.size
  omega
namespace ledgerActs
set_option maxHeartbeats 1000000 in
theorem great_many (w : World) {a : Option Addr} {n cap len : Nat} {F : Nat → Nat → Value} (hr : Recs w (.slice a n cap) ActL15 len F) (w' : World) (hw : Below w.heap.size w w') :
    Calls Try.prog 5 #[.slice a n cap] w' fun e w2 => ∃ g, e = .returned (.bool g) ∧ (g = false → n ≤ 100) ∧ Below w'.heap.size w' w2 := by
  obtain ⟨rfl, hn1, hn2⟩ := hr.len
  have HR := Lib.hid hr; have HW := Lib.hid hw
  have I0 := Lib.hid (show GreatR w' n (.int .i64 0) (.int .i64 0) w' from ⟨0, 0, Nat.zero_le _, rfl, rfl, Below.refl _ _⟩)
  clear hr hw
  go_enter Try.func5, Try.ntmps5
  go_wp2
  go_loopw [3, 8] (fun s i wr => GreatR w' n s i wr) (fun _ i _ => n - (intOf i).toNat)
  case atStart => exact I0.out
  case round =>
    clear I0
    obtain ⟨j, x, hj, rfl, rfl, hb⟩ := hrel
    have B := Lib.hid hb
    by_cases hjn : j < n
    · obtain ⟨b, off, k, y1, y2, y3, av, cv, l, ea, hc, _⟩ := act15 HR.out hjn
      obtain ⟨c0, c1, c2, c3, c4⟩ := hc wr (below_then HW.out HW.out.size hb)
      subst ea
      obtain ⟨m, hm⟩ : ∃ m, l.length = m := ⟨_, rfl⟩
      rw [hm] at c4
      obtain ⟨z, hz⟩ : ∃ z, IntKind.i64.wrap (x + (m : Int)) = z := ⟨_, rfl⟩
      have t2 : decide ((j : Int) < (n : Int)) = true := decide_eq_true (by omega)
      have t2' : decide (j < n) = true := decide_eq_true hjn
      have q3 : (0 : Int) ≤ (j : Int) := by omega
      have q4 : (j : Int) < (n : Int) := by omega
      clear hc hb hm
      go_wp2
      go_roundw
      case rel => exact ⟨j + 1, z, by omega, by go_num, rfl, B.out.alloc B.out.size _⟩
      case measure => simp [intOf] <;> omega
    · obtain rfl : j = n := by omega
      have t2 : decide ((j : Int) < (j : Int)) = false := decide_eq_false (by omega)
      have t2' : decide (j < j) = false := decide_eq_false hjn
      by_cases h100 : 100 < j
      · have t3 : decide ((100 : Int) < (j : Int)) = true := decide_eq_true (by omega)
        have t3' : decide (100 < j) = true := decide_eq_true h100
        clear hb h100
        go_wp2
        go_ret
        exact ⟨_, rfl, fun h => (nomatch h), B.out⟩
      · have t3 : decide ((100 : Int) < (j : Int)) = false := decide_eq_false (by omega)
        have t3' : decide (100 < j) = false := decide_eq_false h100
        obtain ⟨g, hg⟩ : ∃ g, decide (500 < x) = g := ⟨_, rfl⟩
        clear hb; have HN := Lib.hid h100; clear h100
        go_wp2
        go_ret
        exact ⟨_, rfl, fun _ => Nat.le_of_not_lt HN.out, B.out⟩
def ActsR (w : World) (lb mb n : Nat) (i : Value) (wr : World) : Prop :=
  ∃ (j : Nat) (L : List En) (T U : Nat → Prop), j ≤ n ∧ i = .int .i64 (j : Int) ∧ L.length ≤ j ∧ PL w lb mb T U L L wr
set_option maxRecDepth 100000 in
set_option maxHeartbeats 8000000 in
theorem walk_nat (w : World) {a : Option Addr} {n cap : Nat} (len : Nat) (F : Nat → Nat → Value) (h : Recs w (.slice a n cap) ActL15 len F) :
    Calls Try.prog 3 #[.slice a n cap] w fun e w' => e = .returned (.bool true) ∧ Below w.heap.size w w' := by
  obtain ⟨rfl, hn1, hn2⟩ := h.len
  have HR := Lib.hid h
  have AL := Lib.hid (alive_any w)
  have GR := Lib.hid (fun w' hw => great_many w h w' hw)
  clear h
  go_enter Try.func3, Try.ntmps3
  go_wp2_with fail
  refine AL.out.mono ?_; rintro e w1 ⟨rfl, hb⟩
  have B1 := Lib.hid hb
  clear hb
  go_wp2_with fail
  refine (GR.out w1 B1.out).mono ?_; rintro e w2 ⟨gr, rfl, hg, hb⟩
  have B2 := Lib.hid (below_then B1.out B1.out.size hb)
  have HG := Lib.hid hg
  clear hb hg
  cases gr
  rotate_left
  · go_wp2_with fail
    go_ret
    exact ⟨rfl, B2.out⟩
  have h100 := HG.out rfl
  clear AL GR HG B1
  have I0 : Hid (ActsR w2 w2.heap.size (w2.heap.size + 1) n (.int .i64 0) ((w2.alloc (.cells #[.slice none 0 0] 27)).alloc (.cells #[.slice none 0 0, .slice none 0 0] 32))) := Lib.hid ⟨0, [], _, _, Nat.zero_le _, rfl, Nat.le_refl _, PL.new w2⟩
  obtain ⟨lb, hlb⟩ : ∃ lb, w2.heap.size = lb := ⟨_, rfl⟩
  obtain ⟨mb, hmb⟩ : ∃ mb, lb + 1 = mb := ⟨_, rfl⟩
  have esz : (w2.alloc (.cells #[.slice none 0 0] 27)).heap.size = mb := by rw [World.size_alloc, hlb, hmb]
  rw [hlb, hmb] at I0
  go_wp2_with fail
  go_loopw [15] (fun i wr => ActsR w2 lb mb n i wr) (fun i _ => n - (intOf i).toNat)
  case atStart => exact I0.out
  case round =>
    clear I0 esz hlb hmb
    obtain ⟨j, L, T, U, hj, rfl, hlj, hp⟩ := hrel
    have HJ := Lib.hid hlj
    have PR := Lib.hid hp
    by_cases hjn : j < n
    · obtain ⟨b, off, k, y1, y2, y3, av, cv, l, ea, hc, u1, u2, u3, hl63, hseq, hin, _⟩ := act15 HR.out hjn
      have hwr := below_then B2.out B2.out.size hp.below
      obtain ⟨c0, c1, c2, c3, c4⟩ := hc wr hwr
      subst ea
      obtain ⟨m, hm⟩ : ∃ m, l.length = m := ⟨_, rfl⟩
      rw [hm] at c4 hseq hl63
      have hin' : 0 < l.length → ∀ k, In (.slice av m cv) k → k < w2.heap.size := fun h0 k hk => by
        rw [← hm] at hk
        exact Nat.lt_of_lt_of_le (hin h0 k hk) B2.out.size
      have t2 : decide ((j : Int) < (n : Int)) = true := decide_eq_true (by omega)
      have t2' : decide (j < n) = true := decide_eq_true hjn
      have q3 : (0 : Int) ≤ (j : Int) := by omega
      have q4 : (j : Int) < (n : Int) := by omega
      have bA : Below wr.heap.size wr (wr.alloc (.cells #[.int .i64 k, .int .u64 (y1 : Int), .int .u64 (y2 : Int), .int .u64 (y3 : Int), .slice av m cv] 38)).drew := ((Below.refl _ wr).alloc (Nat.le_refl _) _).drew
      have KD := Lib.hid (do_any (kk := k) (hp.grew bA) (hseq _ (below_then hwr hwr.size bA)) hl63 hin' u1 u2 u3 (by omega : L.length < 1048576))
      have bk := Blk.new wr 38 #[.int .i64 k, .int .u64 (y1 : Int), .int .u64 (y2 : Int), .int .u64 (y3 : Int), .slice av m cv]
      have CS : Hid (_ ∧ _ ∧ _ ∧ _ ∧ _) := Lib.hid ⟨bk.cell 0, bk.cell 1, bk.cell 2, bk.cell 3, bk.cell 4⟩
      clear hc hm hseq hin hin' hwr u1 u2 u3 hlj hp bA bk hl63
      go_wp2_with fail
      refine till_start (fun w' => w'.cell? ⟨wr.heap.size, 0, none⟩ = some (.int .i64 k) ∧ w'.cell? ⟨wr.heap.size, 1, none⟩ = some (.int .u64 (y1 : Int)) ∧ w'.cell? ⟨wr.heap.size, 2, none⟩ = some (.int .u64 (y2 : Int)) ∧ w'.cell? ⟨wr.heap.size, 3, none⟩ = some (.int .u64 (y3 : Int)) ∧ w'.cell? ⟨wr.heap.size, 4, none⟩ = some (.slice av m cv)) 2 (by kernel_rfl) ?_
      change Till _ _ _ _ _ _ 19 #[false, false, false, false, false, false, false, false, false, false, false, false, false, false, false, false, false, false, false] _ _
      have hS := CS.out
      refine till_take 0 (ptrV mb 0) rfl rfl (by kernel_rfl) (by kernel_rfl) (by kernel_rfl) (by kernel_rfl) (by kernel_rfl) (by kernel_rfl) (fun _ _ _ h => h) (by rfl) (by intro w hSw; (try dsimp only at hSw); go_simp) hS ?_
      simp only [Act.put, List.setIfInBounds_toArray, List.set_cons_zero, List.set_cons_succ]
      refine till_take 1 (.agg #[.int .i64 k, .int .u64 (y1 : Int), .int .u64 (y2 : Int), .int .u64 (y3 : Int), .slice av m cv]) rfl rfl (by kernel_rfl) (by kernel_rfl) (by kernel_rfl) (by kernel_rfl) (by kernel_rfl) (by kernel_rfl) (fun _ _ _ h => h) (by rfl) (by intro w hSw; (try dsimp only at hSw); go_simp) hS ?_
      simp only [Act.put, List.setIfInBounds_toArray, List.set_cons_zero, List.set_cons_succ]
      clear hS
      refine till_call 2 (.bool true) rfl (by kernel_rfl) (by kernel_rfl) (by rfl) (by go_simp) KD.out ?_
      rintro w5 ⟨T5, U5, L5, hl5, hp5⟩
      clear KD CS
      simp only [Act.put, List.setIfInBounds_toArray, List.set_cons_zero, List.set_cons_succ]
      obtain ⟨a1, c1, a2, c2, m0, m1, s1, s2⟩ := hp5.doc.open
      have P5 := Lib.hid hp5
      have HL5 := Lib.hid hl5
      obtain ⟨N, hN⟩ : ∃ N, L5.length = N := ⟨_, rfl⟩
      have S1 := Lib.hid s1
      rw [hN] at m0 S1
      have HN := Lib.hid hN
      have KA := Lib.hid (All_any w5 hp5.led)
      clear s1 s2 m1 hp5 hl5 hN
      refine till_held (S' := fun w' => w'.cell? ⟨mb, 0, none⟩ = some (.slice a1 N c1)) _ (by kernel_rfl) ?_
      have hHeld : w5.cell? ⟨mb, 0, none⟩ = some (.slice a1 N c1) := m0
      refine held_take 3 (.bool false) rfl (by kernel_rfl) (by kernel_rfl) (by kernel_rfl) (fun _ _ _ h => h) (by rfl) (by intro w hSw; (try dsimp only at hSw); go_simp) hHeld ?_
      simp only [Act.put, List.setIfInBounds_toArray, List.set_cons_zero, List.set_cons_succ]
      refine held_take 4 (.bool false) rfl (by kernel_rfl) (by kernel_rfl) (by kernel_rfl) (fun _ _ _ h => h) (by rfl) (by intro w hSw; (try dsimp only at hSw); go_simp) hHeld ?_
      simp only [Act.put, List.setIfInBounds_toArray, List.set_cons_zero, List.set_cons_succ]
      refine held_take 6 (ptrV mb 0) rfl (by kernel_rfl) (by kernel_rfl) (by kernel_rfl) (fun _ _ _ h => h) (by rfl) (by intro w hSw; (try dsimp only at hSw); go_simp) hHeld ?_
      simp only [Act.put, List.setIfInBounds_toArray, List.set_cons_zero, List.set_cons_succ]
      refine held_take 7 (ptrV mb 0) rfl (by kernel_rfl) (by kernel_rfl) (by kernel_rfl) (fun _ _ _ h => h) (by rfl) (by intro w hSw; (try dsimp only at hSw); go_simp) hHeld ?_
      simp only [Act.put, List.setIfInBounds_toArray, List.set_cons_zero, List.set_cons_succ]
      refine held_take 8 (ptrV mb 0) rfl (by kernel_rfl) (by kernel_rfl) (by kernel_rfl) (fun _ _ _ h => h) (by rfl) (by intro w hSw; (try dsimp only at hSw); go_simp) hHeld ?_
      simp only [Act.put, List.setIfInBounds_toArray, List.set_cons_zero, List.set_cons_succ]
      refine held_take 9 (.slice a1 N c1) rfl (by kernel_rfl) (by kernel_rfl) (by kernel_rfl) (fun _ _ _ h => h) (by rfl) (by intro w hSw; (try dsimp only at hSw); go_simp) hHeld ?_
      simp only [Act.put, List.setIfInBounds_toArray, List.set_cons_zero, List.set_cons_succ]
      clear hHeld
      refine held_callE 5 rfl (by kernel_rfl) (by rfl) (by go_simp) KA.out ?_
      rintro v w6 ⟨hv, hin, hb⟩
      obtain ⟨av2, cv2, ev, _, _⟩ := hv.slice'
      rw [List.length_map, HN.out] at ev
      subst ev
      have hNb : N ≤ 1048576 := by rw [← HN.out]; exact P5.out.led.good.len
      have m6 : w6.cell? ⟨mb, 0, none⟩ = some (.slice a1 N c1) := (hb.cell (p := ⟨mb, 0, none⟩) (World.block_lt_of_cell? w5 _ m0)).trans m0
      have P6 := Lib.hid (P5.out.grew hb)
      have KS : Hid (Calls Try.prog 7 #[.slice av2 N cv2, .slice a1 N c1] w6 fun e w' => e = .returned (.bool true) ∧ Below w6.heap.size w6 w') := Lib.hid (by
        have := same15 w6 hv.seq (S1.out w6 hb) hNb hNb
        rw [decide_eq_true rfl] at this
        exact this)
      clear hv hin hb hNb m0 P5 KA S1
      refine ⟨m6, fun hHeld => ?_⟩
      simp only [Act.put, List.setIfInBounds_toArray, List.set_cons_zero, List.set_cons_succ]
      clear hHeld
      refine held_call 10 (.bool true) rfl (by kernel_rfl) (by rfl) (by go_simp) KS.out ?_
      intro w7 hb
      have m7 : w7.cell? ⟨mb, 0, none⟩ = some (.slice a1 N c1) := (hb.cell (p := ⟨mb, 0, none⟩) (World.block_lt_of_cell? w6 _ m6)).trans m6
      have P7 := Lib.hid (P6.out.grew hb)
      clear hb m6 P6 KS
      refine ⟨m7, fun hHeld => ?_⟩
      simp only [Act.put, List.setIfInBounds_toArray, List.set_cons_zero, List.set_cons_succ]
      refine held_take 11 (.bool false) rfl (by kernel_rfl) (by kernel_rfl) (by kernel_rfl) (fun _ _ _ h => h) (by rfl) (by intro w hSw; (try dsimp only at hSw); go_simp) hHeld ?_
      simp only [Act.put, List.setIfInBounds_toArray, List.set_cons_zero, List.set_cons_succ]
      refine held_take 12 (.bool false) rfl (by kernel_rfl) (by kernel_rfl) (by kernel_rfl) (fun _ _ _ h => h) (by rfl) (by intro w hSw; (try dsimp only at hSw); go_simp) hHeld ?_
      simp only [Act.put, List.setIfInBounds_toArray, List.set_cons_zero, List.set_cons_succ]
      refine held_take 13 (.bool false) rfl (by kernel_rfl) (by kernel_rfl) (by kernel_rfl) (fun _ _ _ h => h) (by rfl) (by intro w hSw; (try dsimp only at hSw); go_simp) hHeld ?_
      simp only [Act.put, List.setIfInBounds_toArray, List.set_cons_zero, List.set_cons_succ]
      refine held_take 15 (ptrV mb 0) rfl (by kernel_rfl) (by kernel_rfl) (by kernel_rfl) (fun _ _ _ h => h) (by rfl) (by intro w hSw; (try dsimp only at hSw); go_simp) hHeld ?_
      simp only [Act.put, List.setIfInBounds_toArray, List.set_cons_zero, List.set_cons_succ]
      clear hHeld
      have KB := Lib.hid (Bytes_any w7 P7.out.led)
      obtain ⟨s, hs⟩ : ∃ s, sumN L5 = s := ⟨_, rfl⟩
      rw [hs] at KB
      have HS := Lib.hid hs
      clear hs
      refine held_call 14 (.int .u64 (s : Int)) rfl (by kernel_rfl) (by rfl) (by go_simp) KB.out ?_
      intro w8 hb
      have m8 : w8.cell? ⟨mb, 0, none⟩ = some (.slice a1 N c1) := (hb.cell (p := ⟨mb, 0, none⟩) (World.block_lt_of_cell? w7 _ m7)).trans m7
      have P8 := Lib.hid (P7.out.grew hb)
      have KC := Lib.hid (doc_Bytes w8 P8.out.doc)
      rw [HS.out] at KC
      clear hb m7 P7 KB
      refine ⟨m8, fun hHeld => ?_⟩
      simp only [Act.put, List.setIfInBounds_toArray, List.set_cons_zero, List.set_cons_succ]
      clear hHeld
      refine held_call 16 (.int .u64 (s : Int)) rfl (by kernel_rfl) (by rfl) (by go_simp) KC.out ?_
      intro w9 hb
      have m9 : w9.cell? ⟨mb, 0, none⟩ = some (.slice a1 N c1) := (hb.cell (p := ⟨mb, 0, none⟩) (World.block_lt_of_cell? w8 _ m8)).trans m8
      have P9 := Lib.hid (P8.out.grew hb)
      clear hb m8 P8 KC
      refine ⟨m9, fun hHeld => ?_⟩
      simp only [Act.put, List.setIfInBounds_toArray, List.set_cons_zero, List.set_cons_succ]
      refine held_take 17 (.bool false) rfl (by kernel_rfl) (by kernel_rfl) (by kernel_rfl) (fun _ _ _ h => h) (by rfl) (by intro w hSw; (try dsimp only at hSw); go_simp) hHeld ?_
      simp only [Act.put, List.setIfInBounds_toArray, List.set_cons_zero, List.set_cons_succ]
      refine held_take 18 (.bool false) rfl (by kernel_rfl) (by kernel_rfl) (by kernel_rfl) (fun _ _ _ h => h) (by rfl) (by intro w hSw; (try dsimp only at hSw); go_simp) hHeld ?_
      simp only [Act.put, List.setIfInBounds_toArray, List.set_cons_zero, List.set_cons_succ]
      clear hHeld m9
      refine wpAnyH_done (by kernel_rfl) ?_ _
      go_wp2_with fail
      go_roundw
      case rel => exact ⟨j + 1, L5, T5, U5, by omega, by go_num, Nat.le_trans HL5.out (Nat.succ_le_succ HJ.out), P9.out⟩
      case measure => simp [intOf] <;> omega
    · obtain rfl : j = n := by omega
      have t2 : decide ((j : Int) < (j : Int)) = false := decide_eq_false (by omega)
      have t2' : decide (j < j) = false := decide_eq_false (by omega)
      have B3 := Lib.hid (below_then B2.out B2.out.size hp.below)
      clear hjn hp PR
      go_wp2_with fail
      go_ret
      exact ⟨rfl, B3.out⟩
theorem walk (w : World) {a : Option Addr} {n cap : Nat} (len : Nat) (F : Nat → Nat → Value) (h : Recs w (.slice a n cap) ActL15 len F) : Calls Try.prog 3 #[.slice a n cap] w fun e w' => e = .returned (.bool true) ∧ Below w.heap.size w w' := walk_nat w len F h
end ledgerActs
end Go.Proofs.Ytclmdjkihijciaa
