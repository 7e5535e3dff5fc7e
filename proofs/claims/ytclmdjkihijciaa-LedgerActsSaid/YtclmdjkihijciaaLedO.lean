/- The landed ledger: All and Bytes. -/
import Derived.Test.YtclmdjkihijciaaLedM
namespace Go.Proofs.Ytclmdjkihijciaa
open Go.RowKit LedMath
set_option linter.unusedVariables false

theorem infoB : (Try.prog.info? 35).map (fun i => (i.zero, i.size, i.bytes)) = some (some (.agg #[.int .u64 0, .int .u64 0, .int .u64 0]), 3, 24) := by kernel_rfl
def upTo (L : List En) (s : Nat) : List En := (List.range s).flatMap (rowOf L)
theorem upTo_succ (L : List En) (s : Nat) : upTo L (s + 1) = upTo L s ++ rowOf L s := by
  unfold upTo; rw [List.range_succ, List.flatMap_append]; simp
theorem upTo_len {L : List En} (h : GoodL L) (s : Nat) : (upTo L s).length ≤ 1048576 := h.row_count s
def AllO (w : World) (L : List En) (v i : Value) (wr : World) : Prop :=
  ∃ s : Nat, s ≤ 1024 ∧ i = .int .i64 (s : Int) ∧ Vec Elem.blks wr v ((upTo L s).map En.b) ∧ (∀ k, In v k → w.heap.size ≤ k) ∧ Below w.heap.size w wr
def AllI (w : World) (L : List En) (s : Nat) (v i : Value) (wr : World) : Prop :=
  ∃ j : Nat, j ≤ (rowOf L s).length ∧ i = .int .i64 (j : Int) ∧ Vec Elem.blks wr v ((upTo L s ++ (rowOf L s).take j).map En.b) ∧ (∀ k, In v k → w.heap.size ≤ k) ∧ Below w.heap.size w wr
theorem blk_one (w : World) (t : TypeId) (e : En) (g : Nat) (hg : g = w.heap.size) : Seq Elem.blks (w.alloc (.cells #[.int .u64 (e.a : Int), .int .u64 (e.n : Int), .int .u64 (e.g : Int)] t)) (.slice (some ⟨g, 0, none⟩) 1 1) [e.b] := by
  subst hg; exact Seq.new (E := Elem.blks) w t [e.b] 1
set_option maxRecDepth 100000 in
set_option maxHeartbeats 4000000 in
theorem All_row (w : World) {lb rb : Nat} {V : Nat → Value} {S : Nat → Prop} {L : List En} (h : LedR w lb rb V S L) :
    Calls Try.prog 8 #[ptrV lb 0] w fun r w' => ∃ v, r = .returned v ∧ Vec Elem.blks w' v (L.map En.b) ∧ (∀ k, In v k → w.heap.size ≤ k) ∧ Below w.heap.size w w' := by
  obtain ⟨i0, hi, hz0, hz1, hz2⟩ := info_parts infoB
  have H := Lib.hid h
  have lc := h.lc
  have I0 := Lib.hid (show AllO w L (.slice none 0 0) (.int .i64 0) w from ⟨0, Nat.zero_le _, rfl, Vec.nil w, fun k hk => (by cases hk), Below.refl _ _⟩)
  clear h
  go_enter Try.func8, Try.ntmps8
  go_wp2
  go_loopw [3, 15] (fun v i wr => AllO w L v i wr) (fun _ i _ => 1024 - (intOf i).toNat)
  case atStart => exact I0.out
  case round =>
    clear I0
    obtain ⟨s, hs, rfl, hv, hin, hb⟩ := hrel
    by_cases hs1 : s < 1024
    · have t1 : decide ((s : Int) < 1024) = true := decide_eq_true (by omega)
      have t1' : decide (s < 1024) = true := decide_eq_true hs1
      have HR := Lib.hid (H.out.below hb)
      have rc := HR.out.cell s hs1
      obtain ⟨a, cap, ev, hnc, hc63⟩ := (HR.out.row s hs1).slice'
      obtain ⟨n, hn⟩ : ∃ n, (rowOf L s).length = n := ⟨_, rfl⟩
      have HN := Lib.hid hn
      rw [hn] at ev hnc
      rw [ev] at rc
      have EV := Lib.hid ev
      have hn1 : n ≤ 1024 := by rw [← hn]; exact H.out.good.row_len s
      obtain ⟨av, nv, cv, ev2⟩ : ∃ av nv cv, _ = Value.slice av nv cv := by obtain ⟨x, y, z, _⟩ := hv.slice'; exact ⟨x, _, y, z⟩
      have I1 := Lib.hid (show AllI w L s _ (.int .i64 0) wr from ⟨0, Nat.zero_le _, rfl, by rw [List.take_zero, List.append_nil]; exact hv, hin, hb⟩)
      rw [ev2] at I1
      subst ev2
      have q1 : (0 : Int) ≤ (s : Int) := by omega
      have q2 : (s : Int) < 1024 := by omega
      clear hv hin hb hn ev
      go_wp2
      go_loopw [3, 21] (fun v i wi => AllI w L s v i wi) (fun _ i _ => n - (intOf i).toNat)
      case atStart => exact I1.out
      case round =>
        clear I1
        obtain ⟨j, hj, rfl, hv, hin, hb⟩ := hrel
        rw [HN.out] at hj
        by_cases hjn : j < n
        · have t2 : decide (j < n) = true := decide_eq_true hjn
          have t2' : decide ((j : Int) < (n : Int)) = true := decide_eq_true (by omega)
          obtain ⟨e, he⟩ : ∃ e, (rowOf L s)[j]? = some e := ⟨_, List.getElem?_eq_getElem (by rw [HN.out]; exact hjn)⟩
          have hsq := ((H.out.below hb).row s hs1).seq
          rw [EV.out] at hsq
          obtain ⟨b, off, ea, k0, k1, k2, k3⟩ := hsq.ent he
          subst ea
          have q3 : (0 : Int) ≤ (j : Int) := by omega
          have q4 : (j : Int) < (n : Int) := by omega
          have hnx : upTo L s ++ (rowOf L s).take (j + 1) = upTo L s ++ (rowOf L s).take j ++ [e] := by
            obtain ⟨h1, h2⟩ := List.getElem?_eq_some_iff.1 he
            rw [List.take_add_one, he, List.append_assoc]; rfl
          have hlen : (upTo L s ++ (rowOf L s).take j).length + 1 ≤ 1048577 := by
            have h1 := upTo_len H.out.good (s + 1)
            rw [upTo_succ, List.length_append] at h1
            rw [List.length_append, List.length_take, HN.out, Nat.min_eq_left hj]
            rw [HN.out] at h1
            omega
          have NX := Lib.hid hnx
          have HL := Lib.hid hlen
          obtain ⟨av3, cv3, ev3, _, _⟩ := hv.slice'
          obtain ⟨nv3, hnv3⟩ : ∃ nv3, ((upTo L s ++ (rowOf L s).take j).map En.b).length = nv3 := ⟨_, rfl⟩
          rw [hnv3] at ev3
          subst ev3
          have NV := Lib.hid hnv3
          have HV := Lib.hid hv; have HI := Lib.hid hin; have HB := Lib.hid hb
          have VA : Hid (∀ o p, Vec Elem.blks ((wr.alloc o).alloc p) (.slice av3 nv3 cv3) ((upTo L s ++ (rowOf L s).take j).map En.b)) := Lib.hid fun o p => (hv.alloc o).alloc p
          have SA : Hid (∀ o g, g = wr.heap.size + 1 → Seq Elem.blks ((wr.alloc o).alloc (.cells #[.int .u64 (e.a : Int), .int .u64 (e.n : Int), .int .u64 (e.g : Int)] 35)) (.slice (some ⟨g, 0, none⟩) 1 1) [e.b]) := Lib.hid fun o g hg => blk_one (wr.alloc o) _ e g (by rw [hg]; simp)
          have BA : Hid (∀ o p, Below w.heap.size w ((wr.alloc o).alloc p)) := Lib.hid fun o p => below_alloc2 hb hb.size o p
          have SZ : Hid (∀ o p, w.heap.size ≤ ((wr.alloc o).alloc p).heap.size) := Lib.hid fun o p => (BA.out o p).size
          clear hnv3
          clear hv hin hb he hsq hnx hlen
          go_wp2_with (at_builtin; refine wpList_append_vec (E := Elem.blks) rfl (.tmp 25) (.tmp 28) 29 rfl 35 i0 _ 24 Try.underlying29 hi hz0 hz1 hz2 rfl (.slice av3 nv3 cv3) _ ((upTo L s ++ (rowOf L s).take j).map En.b) [e.b] rfl rfl (VA.out _ _) (SA.out _ _ rfl) ?_ ?_ ?_; (have := HL.out; rw [List.length_map]; simp only [maxLen, List.length_cons, List.length_nil]; omega); (have := HL.out; rw [List.length_map]; simp only [List.length_cons, List.length_nil]; omega); intro v4 w4 hv4 hu4 hin4; have V4 := Lib.hid hv4; have U4 := Lib.hid hu4; have IN4 := Lib.hid hin4; clear hv4 hu4 hin4)
          go_roundw
          case rel => exact ⟨j + 1, by rw [HN.out]; omega, by go_num, by rw [NX.out, List.map_append]; exact V4.out, fun k hk => (by
            rcases IN4.out k hk with hk | hk
            · exact HI.out k hk
            · exact Nat.le_trans (SZ.out _ _) hk), (BA.out _ _).trans (U4.out.below HI.out (SZ.out _ _))⟩
          case measure => simp [intOf] <;> omega
        · obtain rfl : j = n := by omega
          have t2 : decide (j < j) = false := decide_eq_false hjn
          have t2' : decide ((j : Int) < (j : Int)) = false := decide_eq_false (by omega)
          rw [List.take_of_length_le (by rw [HN.out]; exact Nat.le_refl _), ← upTo_succ] at hv
          have HV := Lib.hid hv; have HI := Lib.hid hin; have HB := Lib.hid hb
          clear hv hin hb hjn
          go_wp2_with fail
          go_roundw
          case rel => exact ⟨s + 1, by omega, by go_num, HV.out, HI.out, HB.out⟩
          case measure => simp [intOf] <;> omega
    · obtain rfl : s = 1024 := by omega
      have e : upTo L 1024 = L := H.out.good.rows
      rw [e] at hv
      have HV := Lib.hid hv; have HI := Lib.hid hin; have HB := Lib.hid hb
      clear hv hin hb hs1 e
      go_wp2_with fail
      go_ret
      exact ⟨_, rfl, HV.out, HI.out, HB.out⟩
theorem All_any (w : World) {lb : Nat} {S : Nat → Prop} {L : List En} (h : Led w lb S L) :
    Calls Try.prog 8 #[ptrV lb 0] w fun r w' => ∃ v, r = .returned v ∧ Vec Elem.blks w' v (L.map En.b) ∧ (∀ k, In v k → w.heap.size ≤ k) ∧ Below w.heap.size w w' := by
  rcases h with ⟨h, rfl⟩ | ⟨rb, V, h⟩
  · have lc := h.lc
    clear h
    go_enter Try.func8, Try.ntmps8
    go_wp2
    go_loopw [3, 15] (fun v i wr => v = .slice none 0 0 ∧ i = .int .i64 0 ∧ wr = w) (fun _ i _ => 0)
    case atStart => exact ⟨rfl, rfl, rfl⟩
    case round =>
      obtain ⟨rfl, rfl, rfl⟩ := hrel
      go_wp2
      go_ret
      exact ⟨_, rfl, Vec.nil _, fun k hk => (by cases hk), Below.refl _ _⟩
  · exact All_row w h

/-! ### Bytes -/
def sumN (L : List En) : Nat := (L.map En.n).sum
theorem sum_le : ∀ {L : List En} {lo hi : Nat}, L.Pairwise (fun x y : En => x.z ≤ y.a) → (∀ e ∈ L, lo ≤ e.a ∧ e.z ≤ hi) → lo ≤ hi → sumN L + lo ≤ hi
  | [], lo, hi, _, _, h => by simpa [sumN] using h
  | x :: l, lo, hi, h, hb, hl => by
    rw [List.pairwise_cons] at h
    have h0 := hb x List.mem_cons_self
    have := sum_le (L := l) (lo := x.z) (hi := hi) h.2 (fun e he => ⟨h.1 e he, (hb e (List.mem_cons_of_mem _ he)).2⟩) h0.2
    have e1 : sumN (x :: l) = x.n + sumN l := by simp [sumN]
    have e2 : x.z = x.a + max x.n 1 := rfl
    omega
theorem sumN_le {L : List En} (h : GoodL L) : sumN L ≤ 1048576 := by
  have := sum_le (L := L) (lo := 0) (hi := 1048576) h.apart (fun e he => ⟨Nat.zero_le _, h.lt he⟩) (by decide)
  omega
theorem sumN_take (L : List En) (j : Nat) : sumN (L.take j) ≤ sumN L := by
  have : sumN L = sumN (L.take j) + sumN (L.drop j) := by
    unfold sumN; rw [← List.sum_append, ← List.map_append, List.take_append_drop]
  omega
def BytI (w : World) (L : List En) (v i : Value) (wr : World) : Prop :=
  ∃ j : Nat, j ≤ L.length ∧ i = .int .i64 (j : Int) ∧ v = .int .u64 ((sumN (L.take j) : Nat) : Int) ∧ Below w.heap.size w wr
theorem sumN_next {L : List En} {j : Nat} {e : En} (h : L[j]? = some e) : sumN (L.take (j + 1)) = sumN (L.take j) + e.n := by
  unfold sumN
  rw [List.take_add_one, h, List.map_append, List.sum_append]; simp
theorem Seq.blk {w : World} {a : Option Addr} {n cap : Nat} {l : List (Nat × Nat × Nat)} (h : Seq Elem.blks w (.slice a n cap) l) {i : Nat} {x : Nat × Nat × Nat} (hx : l[i]? = some x) : ∃ b off, a = some ⟨b, off, none⟩ ∧ w.cell? ⟨b, off + i * 3, none⟩ = some (.int .u64 (x.1 : Int)) ∧ w.cell? ⟨b, off + i * 3 + 1, none⟩ = some (.int .u64 (x.2.1 : Int)) ∧ w.cell? ⟨b, off + i * 3 + 2, none⟩ = some (.int .u64 (x.2.2 : Int)) := by
  obtain ⟨b, off, ea, hc⟩ := h.elem hx
  exact ⟨b, off, ea, hc 0 _ rfl, hc 1 _ rfl, hc 2 _ rfl⟩
set_option maxHeartbeats 2000000 in
theorem Bytes_any (w : World) {lb : Nat} {S : Nat → Prop} {L : List En} (h : Led w lb S L) : Calls Try.prog 9 #[ptrV lb 0] w fun r w' => r = .returned (.int .u64 ((sumN L : Nat) : Int)) ∧ Below w.heap.size w w' := by
  have AL := Lib.hid (All_any w h)
  have GD := Lib.hid h.good
  clear h
  go_enter Try.func9, Try.ntmps9
  go_wp2_with fail
  refine AL.out.mono ?_
  rintro r w1 ⟨v, rfl, hv, hin, hb⟩
  obtain ⟨a, cap, ev, hc1, hc2⟩ := hv.slice'
  rw [List.length_map] at ev hc1
  subst ev
  obtain ⟨n, hn⟩ : ∃ n, L.length = n := ⟨_, rfl⟩
  have HN := Lib.hid hn
  rw [hn] at hv hc1 ⊢
  have hn2 : n ≤ 1048576 := by rw [← hn]; exact GD.out.len
  have HV := Lib.hid hv.seq; have HB := Lib.hid hb
  have I0 := Lib.hid (show BytI w1 L (.int .u64 0) (.int .i64 0) w1 from ⟨0, Nat.zero_le _, rfl, rfl, Below.refl _ _⟩)
  clear hv hin hb hn
  go_wp2
  go_loopw [3, 9] (fun v i wr => BytI w1 L v i wr) (fun _ i _ => n - (intOf i).toNat)
  case atStart => exact I0.out
  case round =>
    clear I0
    obtain ⟨j, hj, rfl, rfl, hb⟩ := hrel
    rw [HN.out] at hj
    by_cases hjn : j < n
    · have t2 : decide (j < n) = true := decide_eq_true hjn
      have t2' : decide ((j : Int) < (n : Int)) = true := decide_eq_true (by omega)
      obtain ⟨e, he⟩ : ∃ e, L[j]? = some e := ⟨_, List.getElem?_eq_getElem (by rw [HN.out]; exact hjn)⟩
      obtain ⟨b, off, ea, k0, k1, k2⟩ := (HV.out.below (Nat.le_refl _) hb).blk (i := j) (x := e.b) (by rw [List.getElem?_map, he]; rfl)
      subst ea
      have q3 : (0 : Int) ≤ (j : Int) := by omega
      have q4 : (j : Int) < (n : Int) := by omega
      have hs := sumN_next he
      have hl := Nat.le_trans (sumN_take L (j + 1)) (sumN_le GD.out)
      obtain ⟨x, hx⟩ : ∃ x, sumN (L.take j) = x := ⟨_, rfl⟩
      obtain ⟨y, hy⟩ : ∃ y, e.b.2.1 = y := ⟨_, rfl⟩
      rw [hx, show e.n = y from hy] at hs
      rw [hx]
      rw [hy] at k1
      rw [hs] at hl
      have SX := Lib.hid hs
      have w1 : IntKind.u64.wrap ((x : Int) + (y : Int)) = (x : Int) + (y : Int) := u64_in _ ⟨by omega, by omega⟩
      have B := Lib.hid hb
      clear hb he hs hl hx hy
      go_wp2_with fail
      go_roundw
      case rel => exact ⟨j + 1, by rw [HN.out]; omega, by go_num, by rw [SX.out, Int.natCast_add], B.out.alloc B.out.size _⟩
      case measure => simp [intOf] <;> omega
    · obtain rfl : j = n := by omega
      have t2 : decide (j < j) = false := decide_eq_false hjn
      have t2' : decide ((j : Int) < (j : Int)) = false := decide_eq_false (by omega)
      have E := Lib.hid (show L.take j = L from List.take_of_length_le (by rw [HN.out]; exact Nat.le_refl _))
      have B := Lib.hid (below_then HB.out HB.out.size hb)
      clear hb hjn
      go_wp2_with fail
      go_ret
      exact ⟨by rw [E.out]; rfl, B.out⟩
end Go.Proofs.Ytclmdjkihijciaa
