/- What laws need of the ledger: calls with one address, a law's own ledger; alive, great, filled. -/
import Derived.Test.YtclmdjkihijciaaLedO
namespace Go.Proofs.Ytclmdjkihijciaa
open Go.RowKit LedMath
set_option linter.unusedVariables false

theorem eachE_one (f : List En → Nat → Nat × List En) (L : List En) (x : Nat) : eachE f L [x] = f L x := by
  show (if (f L x).1 = 0 then (0, (f L x).2) else f L x) = f L x
  split
  · rename_i h; rw [← h]
  · rfl
section
variable {w : World} {lb : Nat} {S : Nat → Prop} {L : List En}
theorem one_in {w : World} {g k : Nat} {x : Nat} (hk : In (.slice (some ⟨w.heap.size, 0, none⟩) 1 1) k) : k = w.heap.size := (in_blk hk).symm
theorem one_led (h : Led w lb S L) (ob : Obj) : Led (w.alloc ob) lb (fun k => S k ∧ k < w.heap.size) L := (h.mono fun k hk hs => ⟨hs, hk⟩).below ((Below.refl _ w).alloc (Nat.le_refl _) ob)
theorem one_end {ob : Obj} {w' : World} {L' : List En} (h : Led w' lb (Grown (fun k => S k ∧ k < w.heap.size) (w.alloc ob)) L') (u : Upd (fun k => S k ∧ k < w.heap.size) (w.alloc ob) w') : Led w' lb (Grown S w) L' ∧ Upd S w w' := by
  have hb := (Below.refl w.heap.size w).alloc (Nat.le_refl _) ob
  refine ⟨h.mono fun k _ hk => ?_, ((updFalse_of hb).mono fun _ h => h.elim).step u fun k hk => .inl hk.1⟩
  rcases hk with hk | hk
  · exact .inl hk.1
  · exact .inr (Nat.le_trans hb.size hk)
theorem hold_one (h : Led w lb S L) (x g : Nat) (hg : g = w.heap.size) : Calls Try.prog 12 #[ptrV lb 0, .slice (some ⟨g, 0, none⟩) 1 1] (w.alloc (.cells #[.int .u64 (x : Int)] 33)) fun r w' => r = .returned (.int .i64 ((hold1 L x).1 : Int)) ∧ Led w' lb (Grown S w) (hold1 L x).2 ∧ Upd S w w' := by
  subst hg
  have := Hold_any _ (one_led h _) (u64_oneAt w 33 x _ rfl) (by decide) (fun _ k hk hs => by have := in_blk hk; have := hs.2; omega)
  rw [eachE_one] at this
  exact this.mono fun r w' k => ⟨k.1, one_end k.2.1 k.2.2⟩
theorem let_one (h : Led w lb S L) (x g : Nat) (hg : g = w.heap.size) : Calls Try.prog 18 #[ptrV lb 0, .slice (some ⟨g, 0, none⟩) 1 1] (w.alloc (.cells #[.int .u64 (x : Int)] 33)) fun r w' => r = .returned (.int .i64 ((let1 L x).1 : Int)) ∧ Led w' lb (Grown S w) (let1 L x).2 ∧ Upd S w w' := by
  subst hg
  have := Let_any _ (one_led h _) (u64_oneAt w 33 x _ rfl) (by decide) (fun _ k hk hs => by have := in_blk hk; have := hs.2; omega)
  rw [eachE_one] at this
  exact this.mono fun r w' k => ⟨k.1, one_end k.2.1 k.2.2⟩
theorem drop_one (h : Led w lb S L) (x g : Nat) (hg : g = w.heap.size) : Calls Try.prog 14 #[ptrV lb 0, .slice (some ⟨g, 0, none⟩) 1 1] (w.alloc (.cells #[.int .u64 (x : Int)] 33)) fun r w' => r = .returned (.int .i64 ((drop1 L x).1 : Int)) ∧ Led w' lb (Grown S w) (drop1 L x).2 ∧ Upd S w w' := by
  subst hg
  have := Drop_any _ (one_led h _) (u64_oneAt w 33 x _ rfl) (by decide) (fun _ k hk hs => by have := in_blk hk; have := hs.2; omega)
  rw [eachE_one] at this
  exact this.mono fun r w' k => ⟨k.1, one_end k.2.1 k.2.2⟩
end
/-- A ledger of a law's own, since w0: what it may write is T. -/
structure OL (w0 : World) (lb : Nat) (T : Nat → Prop) (L : List En) (w : World) : Prop where
  led : Led w lb T L
  below : Below w0.heap.size w0 w
  hi : ∀ k, T k → w0.heap.size ≤ k
theorem OL.grew {w0 w w' : World} {lb : Nat} {T : Nat → Prop} {L : List En} (h : OL w0 lb T L w) (hb : Below w.heap.size w w') : OL w0 lb T L w' := ⟨h.led.below hb, below_then h.below h.below.size hb, h.hi⟩
theorem OL.next {w0 w w' : World} {lb : Nat} {T : Nat → Prop} {L L' : List En} (h : OL w0 lb T L w) (k : Led w' lb (Grown T w) L') (u : Upd T w w') : OL w0 lb (Grown T w) L' w' :=
  ⟨k, h.below.trans (u.below h.hi h.below.size), fun k hk => hk.elim (h.hi k) fun h' => Nat.le_trans h.below.size h'⟩
theorem OL.mono {w0 w : World} {lb : Nat} {T T' : Nat → Prop} {L : List En} (h : OL w0 lb T L w) (hs : ∀ k, k < w.heap.size → T k → T' k) (hi : ∀ k, T' k → w0.heap.size ≤ k) : OL w0 lb T' L w := ⟨h.led.mono hs, h.below, hi⟩
theorem OL.new (w : World) : OL w w.heap.size (fun k => w.heap.size ≤ k) [] (w.alloc (.cells #[.slice none 0 0] 27)) :=
  ⟨.inl ⟨⟨by simp, Nat.le_refl _, (Blk.new w _ _).cell 0, (Blk.new w _ _).frozen 0⟩, rfl⟩, (Below.refl _ w).alloc (Nat.le_refl _) _, fun k h => h⟩
theorem drop_none (w : World) : Calls Try.prog 14 #[.pointer none, .slice none 0 0] w fun r w' => r = .returned (.int .i64 1) ∧ Below w.heap.size w w' := by
  have H : Hid (∀ (w : World) fv, Calls Try.prog 30 #[.pointer none, .slice none 0 0, fv] w fun r w' => r = .returned (.int .i64 1) ∧ w' = w) := Lib.hid fun w fv => by
    go_enter Try.func30, Try.ntmps30
    go_wp2
    go_ret
    exact ⟨rfl, rfl⟩
  go_enter Try.func14, Try.ntmps14
  go_wp2_with fail
  refine (H.out _ _).mono ?_
  rintro r w1 ⟨rfl, rfl⟩
  go_wp2_with fail
  go_ret
  exact ⟨rfl, (Below.refl _ w).alloc (Nat.le_refl _) _⟩
abbrev eA : En := ⟨32, 16, 16, false⟩
abbrev eB : En := ⟨32, 16, 16, true⟩
theorem alive_facts : addE [] 32 16 16 = (0, [eA]) ∧ addE [eA] 40 8 8 = (6, [eA]) ∧ hold1 [eA] 32 = (0, [eB]) ∧ toldE (atL [eB] 32) = ((0, 0, 0), 7) := ⟨rfl, rfl, rfl, rfl⟩
theorem alive_any (w : World) : Calls Try.prog 4 #[] w fun r w' => r = .returned (.bool true) ∧ Below w.heap.size w w' := by
  obtain ⟨f1, f2, f3, f4⟩ := alive_facts
  have o0 := OL.new w
  have k1 := Add_any _ o0.led (a := 32) (n := 16) (g := 16) (by decide) (by decide) (by decide)
  rw [f1] at k1
  have O0 := Lib.hid o0; have K1 := Lib.hid k1
  have F2 := Lib.hid f2; have F3 := Lib.hid f3; have F4 := Lib.hid f4
  have DN := Lib.hid drop_none
  clear o0 k1 f1 f2 f3 f4
  go_enter Try.func4, Try.ntmps4
  go_wp2_with fail
  refine K1.out.mono ?_; rintro e w1 ⟨rfl, hh, hu⟩
  have O1 := Lib.hid (O0.out.next hh hu)
  have k2 := Add_any w1 O1.out.led (a := 40) (n := 8) (g := 8) (by decide) (by decide) (by decide)
  rw [F2.out] at k2
  have K2 := Lib.hid k2
  clear hh hu k2
  go_wp2_with fail
  refine K2.out.mono ?_; rintro e w2 ⟨rfl, hh, hu⟩
  have O2 := Lib.hid (O1.out.next hh hu)
  have k3 := hold_one O2.out.led 32 w2.heap.size rfl
  rw [F3.out] at k3
  have K3 := Lib.hid k3
  clear hh hu k3
  go_wp2_with fail
  refine K3.out.mono ?_; rintro e w3 ⟨rfl, hh, hu⟩
  have O3 := Lib.hid (O2.out.next hh hu)
  have k4 := At_any w3 O3.out.led (x := 32)
  rw [F4.out] at k4
  have K4 := Lib.hid k4
  clear hh hu k4
  unfold toldV blkV at K4
  go_wp2_with fail
  refine K4.out.mono ?_; rintro e w4 ⟨rfl, hb⟩
  have O4 := Lib.hid (O3.out.grew hb)
  clear hb
  go_wp2_with fail
  have K5 := Lib.hid (fun ob => All_any _ (O4.out.grew ((Below.refl _ w4).alloc (Nat.le_refl _) ob)).led)
  refine (K5.out _).mono ?_; rintro e w5 ⟨v, rfl, hv, _, hb⟩
  obtain ⟨av, cv, ev, _, _⟩ := hv.slice'
  subst ev
  have O5 := Lib.hid ((O4.out.grew ((Below.refl _ w4).alloc (Nat.le_refl _) _)).grew hb)
  clear hv hb
  go_wp2_with fail
  refine (DN.out _).mono ?_; rintro e w6 ⟨rfl, hb⟩
  have O6 := Lib.hid (O5.out.grew hb)
  clear hb
  go_wp2_with fail
  go_ret
  exact ⟨rfl, O6.out.below⟩

/-! ### Acts -/
theorem u64_of' {n : Int} (h : (Lit.int .u64 n).wf = true) : n = ((n.toNat : Nat) : Int) ∧ n.toNat ≤ 18446744073709551615 := by
  simp [Lit.wf, IntKind.min, IntKind.max, IntKind.signed, IntKind.bits] at h; omega
/-- A slice of numbers that came in. -/
theorem NumsAt.seqU {w : World} {v : Value} {l : List Int} (h : NumsAt w .u64 v l) : ∃ a n cap, ∃ L : List Nat, v = .slice a n cap ∧ n = L.length ∧ n ≤ cap ∧ cap ≤ 9223372036854775807 ∧ Seq Elem.u64s w (.slice a n cap) L ∧ (∀ x ∈ L, x ≤ 18446744073709551615) ∧ (0 < n → ∀ b, In (.slice a n cap) b → b < w.heap.size) := by
  obtain ⟨a, cap, rfl, h1, h2, h3, h4, h5⟩ := h
  have hlen : (l.map Int.toNat).length = l.length := by simp
  have hx : ∀ x ∈ l.map Int.toNat, x ≤ 18446744073709551615 := fun x hx => by
    obtain ⟨y, hy, rfl⟩ := List.mem_map.1 hx
    exact (u64_of' (h5 y hy)).2
  by_cases h0 : 0 < l.length
  · obtain ⟨b, off, rfl, hc0⟩ := h4 0 h0
    refine ⟨_, _, cap, l.map Int.toNat, rfl, hlen.symm, h1, h2, Seq.at hlen.symm fun j u hj => ?_, hx, fun _ c hc => ?_⟩
    · rw [all_u64s, List.map_map] at hj
      have hjl : j < l.length := by have := (List.getElem?_eq_some_iff.1 hj).1; simpa using this
      obtain ⟨b', off', e, hc⟩ := h4 j hjl
      injection e with e
      injection e with eb eo _
      subst eb eo
      rw [hc]
      rw [List.getElem?_map, List.getElem?_eq_getElem hjl] at hj
      injection hj with hj
      rw [← hj]
      have e2 : l.getD j 0 = l[j] := by simp [List.getD_eq_getElem?_getD, hjl]
      have := (u64_of' (h5 _ (List.getElem_mem hjl))).1
      rw [e2]
      show some (Value.int .u64 l[j]) = some (Value.int .u64 ((l[j].toNat : Nat) : Int))
      rw [← this]
    · have := in_blk hc
      subst this
      have := World.block_lt_of_cell? w _ hc0
      exact this
  · have hl : l = [] := List.length_eq_zero_iff.1 (by omega)
    subst hl
    exact ⟨a, 0, cap, [], rfl, rfl, h1, h2, .inr ⟨rfl, a, cap, rfl, h3⟩, (by intro x hx; cases hx), fun h => absurd h (by decide)⟩
abbrev ActL15 : List Leaf := [.num .i64, .num .u64, .num .u64, .num .u64, .nums .u64]
theorem act15 {w : World} {a : Option Addr} {n cap len : Nat} {F : Nat → Nat → Value} (h : Recs w (.slice a n cap) ActL15 len F) {i : Nat} (hi : i < len) :
    ∃ b off k, ∃ x y z : Nat, ∃ av cv, ∃ l : List Nat, a = some ⟨b, off, none⟩ ∧ (∀ w', Below w.heap.size w w' → w'.cell? ⟨b, off + i * 5, none⟩ = some (.int .i64 k) ∧ w'.cell? ⟨b, off + i * 5 + 1, none⟩ = some (.int .u64 (x : Int)) ∧ w'.cell? ⟨b, off + i * 5 + 2, none⟩ = some (.int .u64 (y : Int)) ∧ w'.cell? ⟨b, off + i * 5 + 3, none⟩ = some (.int .u64 (z : Int)) ∧ w'.cell? ⟨b, off + i * 5 + 4, none⟩ = some (.slice av l.length cv)) ∧
      U64B x ∧ U64B y ∧ U64B z ∧ l.length ≤ 9223372036854775807 ∧ (∀ w', Below w.heap.size w w' → Seq Elem.u64s w' (.slice av l.length cv) l) ∧ (0 < l.length → ∀ k, In (.slice av l.length cv) k → k < w.heap.size) ∧ ∀ x ∈ l, x ≤ 18446744073709551615 := by
  obtain ⟨b, off, rfl, hc⟩ := h.elem hi
  have c0 := hc 0 (by simp)
  have c1 := hc 1 (by simp)
  have c2 := hc 2 (by simp)
  have c3 := hc 3 (by simp)
  have c4 := hc 4 (by simp)
  have l0 := leaf_int (h.leaf hi 0 _ rfl)
  have l1 := leaf_int (h.leaf hi 1 _ rfl)
  have l2 := leaf_int (h.leaf hi 2 _ rfl)
  have l3 := leaf_int (h.leaf hi 3 _ rfl)
  obtain ⟨l, hl⟩ : ∃ l, NumsAt w .u64 (F i 4) l := h.leaf hi 4 _ rfl
  obtain ⟨av, n', cv, L, e, rfl, hn, hc63, hs, hx, hin⟩ := hl.seqU
  rw [e] at c4
  rw [l0.1] at c0
  rw [l1.1, (u64_of' l1.2).1] at c1
  rw [l2.1, (u64_of' l2.2).1] at c2
  rw [l3.1, (u64_of' l3.2).1] at c3
  have hct : ∀ {q : Addr} {v : Value} {w' : World}, w.cell? q = some v → Below w.heap.size w w' → w'.cell? q = some v := fun {q v w'} h hb => (hb.cell (p := q) (World.block_lt_of_cell? w _ h)).trans h
  exact ⟨b, off, _, _, _, _, av, cv, L, rfl, fun w' hb => ⟨hct c0 hb, hct c1 hb, hct c2 hb, hct c3 hb, hct c4 hb⟩, (u64_of' l1.2).2, (u64_of' l2.2).2, (u64_of' l3.2).2, by omega, fun w' hb => hs.below (Nat.le_refl _) hb, hin, hx⟩
def GreatR (w : World) (n : Nat) (s i : Value) (wr : World) : Prop :=
  ∃ (j : Nat) (x : Int), j ≤ n ∧ i = .int .i64 (j : Int) ∧ s = .int .i64 x ∧ Below w.heap.size w wr
set_option maxHeartbeats 1000000 in
theorem great_any (w : World) {a : Option Addr} {n cap len : Nat} {F : Nat → Nat → Value} (hr : Recs w (.slice a n cap) ActL15 len F) (w' : World) (hw : Below w.heap.size w w') :
    Calls Try.prog 5 #[.slice a n cap] w' fun e w2 => ∃ g, e = .returned (.bool g) ∧ Below w'.heap.size w' w2 := by
  obtain ⟨rfl, hn1, hn2⟩ := hr.len
  have HR := Lib.hid hr; have HW := Lib.hid hw
  have I0 := Lib.hid (show GreatR w' n (.int .i64 0) (.int .i64 0) w' from ⟨0, 0, Nat.zero_le _, rfl, rfl, Below.refl _ _⟩)
  clear hr hw
  go_enter Try.func5, Try.ntmps5
  go_wp2
  go_loopw [3, 8] (fun s i wr => GreatR w' n s i wr) (fun _ i _ => n - (intOf i).toNat)
  case atStart => exact I0.out
  case round =>
    clear I0
    obtain ⟨j, x, hj, rfl, rfl, hb⟩ := hrel
    have B := Lib.hid hb
    by_cases hjn : j < n
    · obtain ⟨b, off, k, y1, y2, y3, av, cv, l, ea, hc, _⟩ := act15 HR.out hjn
      obtain ⟨c0, c1, c2, c3, c4⟩ := hc wr (below_then HW.out HW.out.size hb)
      subst ea
      obtain ⟨m, hm⟩ : ∃ m, l.length = m := ⟨_, rfl⟩
      rw [hm] at c4
      obtain ⟨z, hz⟩ : ∃ z, IntKind.i64.wrap (x + (m : Int)) = z := ⟨_, rfl⟩
      have t2 : decide ((j : Int) < (n : Int)) = true := decide_eq_true (by omega)
      have t2' : decide (j < n) = true := decide_eq_true hjn
      have q3 : (0 : Int) ≤ (j : Int) := by omega
      have q4 : (j : Int) < (n : Int) := by omega
      clear hc hb hm
      go_wp2
      go_roundw
      case rel => exact ⟨j + 1, z, by omega, by go_num, rfl, B.out.alloc B.out.size _⟩
      case measure => simp [intOf] <;> omega
    · obtain rfl : j = n := by omega
      have t2 : decide ((j : Int) < (j : Int)) = false := decide_eq_false (by omega)
      have t2' : decide (j < j) = false := decide_eq_false hjn
      by_cases h100 : 100 < j
      · have t3 : decide ((100 : Int) < (j : Int)) = true := decide_eq_true (by omega)
        have t3' : decide (100 < j) = true := decide_eq_true h100
        clear hb h100
        go_wp2
        go_ret
        exact ⟨_, rfl, B.out⟩
      · have t3 : decide ((100 : Int) < (j : Int)) = false := decide_eq_false (by omega)
        have t3' : decide (100 < j) = false := decide_eq_false h100
        obtain ⟨g, hg⟩ : ∃ g, decide (500 < x) = g := ⟨_, rfl⟩
        clear hb h100
        go_wp2
        go_ret
        exact ⟨_, rfl, B.out⟩
def FillR (w : World) (n : Nat) (i : Value) (wr : World) : Prop :=
  ∃ (j : Nat) (L : List En), j ≤ n ∧ i = .int .i64 (j : Int) ∧ OL w w.heap.size (fun k => w.heap.size ≤ k) L wr
theorem OL.again {w0 w w' : World} {lb : Nat} {L L' : List En} (h : OL w0 lb (fun k => w0.heap.size ≤ k) L w) (k : Led w' lb (Grown (fun k => w0.heap.size ≤ k) w) L') (u : Upd (fun k => w0.heap.size ≤ k) w w') : OL w0 lb (fun k => w0.heap.size ≤ k) L' w' :=
  (h.next k u).mono (fun k _ hk => hk.elim id fun h' => Nat.le_trans h.below.size h') fun k hk => hk
end Go.Proofs.Ytclmdjkihijciaa
