/- The law GeoMeets, walked; slices of runs that come in. -/
import Derived.Test.YtophomnbclgjfaaRefG4
namespace Go.Proofs.Ytophomnbclgjfaa
open Go.RowKit GeoMath
set_option linter.unusedVariables false

theorem run_cut_to {α : Type} {E : Elem α} {P : Program} (t : TypeId) (ht : P.underlying t = some (.slice (P.elem t))) (hsz : ∀ w, (sizeOf (P.elem t)).run P w = .ok E.size w) (a : Option Addr) (n cap k : Nat) (hk : k ≤ cap) (w : World) :
    (Instr.slice t (.slice a n cap) none (some (.int .i64 (k : Int))) none).run P w = .ok (.slice a k cap) w := by
  rw [run_slice_h (P := P) (w := w) t a n cap ht .i64 (k : Int) (by omega) (by omega), hsz]
  simp only [Result.andThen_ok, sliced, Int.toNat_natCast, Nat.sub_zero, addr_at0, ite_self]
theorem u64_of {n : Int} (h : (Lit.int .u64 n).wf = true) : n = ((n.toNat : Nat) : Int) ∧ n.toNat ≤ 18446744073709551615 := by
  simp [Lit.wf, IntKind.min, IntKind.max, IntKind.signed, IntKind.bits] at h; omega
theorem i64_of {n : Int} (h : (Lit.int .i64 n).wf = true) : -9223372036854775808 ≤ n ∧ n ≤ 9223372036854775807 := by
  simp [Lit.wf, IntKind.min, IntKind.max, IntKind.signed, IntKind.bits] at h; omega
theorem Recs.runs {w : World} {a : Option Addr} {n cap len : Nat} {F : Nat → Nat → Value} (h : Recs w (.slice a n cap) [.num .u64, .num .u64, .num .i64] len F) :
    ∃ L : List Rn, n = L.length ∧ Seq Elem.runs w (.slice a n cap) L ∧ (∀ x ∈ L, RnB x) ∧ n ≤ cap ∧ cap ≤ 9223372036854775807 := by
  obtain ⟨rfl, hn, hc⟩ := h.len
  have leafs : ∀ i, i < n → (F i 0 = .int .u64 (((asInt (F i 0)).toNat : Nat) : Int) ∧ F i 1 = .int .u64 (((asInt (F i 1)).toNat : Nat) : Int) ∧ F i 2 = .int .i64 (asInt (F i 2))) ∧ RnB ((asInt (F i 0)).toNat, (asInt (F i 1)).toNat, asInt (F i 2)) := by
    intro i hi
    have l0 := leaf_int (h.leaf hi 0 _ rfl)
    have l1 := leaf_int (h.leaf hi 1 _ rfl)
    have l2 := leaf_int (h.leaf hi 2 _ rfl)
    have u0 := u64_of l0.2
    have u1 := u64_of l1.2
    have u2 := i64_of l2.2
    exact ⟨⟨by rw [← u0.1]; exact l0.1, by rw [← u1.1]; exact l1.1, l2.1⟩, rnB u0.2 u1.2 u2.1 u2.2⟩
  have hlen : ((List.range n).map fun i => ((asInt (F i 0)).toNat, (asInt (F i 1)).toNat, asInt (F i 2))).length = n := by simp
  refine ⟨(List.range n).map fun i => ((asInt (F i 0)).toNat, (asInt (F i 1)).toNat, asInt (F i 2)), hlen.symm, ?_, ?_, hn, hc⟩
  · by_cases h0 : 0 < n
    · obtain ⟨b, off, rfl, _⟩ := h.elem h0
      refine Seq.at hlen.symm fun j u hj => ?_
      have hjl : j < n * 3 := by
        have := (List.getElem?_eq_some_iff.1 hj).1
        rw [Elem.length_all, hlen] at this
        exact this
      have hi : j / 3 < n := by omega
      have hx : ((List.range n).map fun i => ((asInt (F i 0)).toNat, (asInt (F i 1)).toNat, asInt (F i 2)))[j / 3]? = some ((asInt (F (j / 3) 0)).toNat, (asInt (F (j / 3) 1)).toNat, asInt (F (j / 3) 2)) := by simp [hi]
      have hall := Elem.runs.all_at hx (j % 3) (show j % 3 < 3 by omega)
      rw [show j / 3 * Elem.runs.size + j % 3 = j by simp only [Elem.runs]; omega] at hall
      rw [hall] at hj
      obtain ⟨b', off', e, hcell⟩ := h.elem hi
      injection e with e
      injection e with eb eo _
      subst eb eo
      have c := hcell (j % 3) (show j % 3 < 3 by omega)
      rw [show off + j / 3 * [Leaf.num .u64, Leaf.num .u64, Leaf.num .i64].length + j % 3 = off + j by simp only [List.length_cons, List.length_nil]; omega] at c
      rw [c]
      obtain ⟨⟨f0, f1, f2⟩, _⟩ := leafs _ hi
      have hr : j % 3 = 0 ∨ j % 3 = 1 ∨ j % 3 = 2 := by omega
      rcases hr with hr | hr | hr
      · rw [hr] at hj ⊢; rw [f0]; exact hj
      · rw [hr] at hj ⊢; rw [f1]; exact hj
      · rw [hr] at hj ⊢; rw [f2]; exact hj
    · obtain rfl : n = 0 := by omega
      obtain ⟨a', cap', e, _, _, h3, _⟩ := h
      injection e with e1 _ e3
      subst e1 e3
      exact .inr ⟨by simp, _, _, rfl, h3⟩
  · intro x hx
    obtain ⟨i, hi, rfl⟩ := List.mem_map.1 hx
    exact (leafs i (by simpa using hi)).2
theorem infoRun : (Try.prog.info? 38).map (fun i => (i.zero, i.size, i.bytes)) = some (some (.agg #[.int .u64 0, .int .u64 0, .int .i64 0]), 3, 24) := by kernel_rfl
theorem sizeRefRun (w : World) : (sizeOf (Try.prog.elem 46)).run Try.prog w = .ok Elem.runs.size w := by kernel_rfl
theorem sizeRun (w : World) : (sizeOf (Try.prog.elem 47)).run Try.prog w = .ok Elem.runs.size w := by kernel_rfl
theorem Seq.take {α : Type} {E : Elem α} {w : World} {a : Option Addr} {n cap k : Nat} {l : List α} (h : Seq E w (.slice a n cap) l) (hk : k ≤ n) : Seq E w (.slice a k cap) (l.take k) := by
  obtain rfl := h.len
  rcases h with ⟨b, off, c, e, hc⟩ | ⟨rfl, a', c, e, hac⟩
  · injection e with e1 _ e3
    subst e1 e3
    have hl : (l.take k).length = k := by simp; omega
    refine .inl ⟨b, off, cap, by rw [hl], fun j u hj => hc j u ?_⟩
    rw [E.all_take] at hj
    have hjk : j < k * E.size := by have := (List.getElem?_eq_some_iff.1 hj).1; rw [List.length_take] at this; omega
    rwa [List.getElem?_take_of_lt hjk] at hj
  · injection e with e1 _ e3
    subst e1 e3
    have : k = 0 := by simpa using hk
    subst this
    exact .inr ⟨by simp, a, cap, rfl, hac⟩
namespace geoMeets
/-- The rows walked so far: what they are, whether two of them meet. -/
def Outer (w : World) (nn : Nat) (L : List Rn) (v want i : Value) (wr : World) : Prop :=
  ∃ j : Nat, j ≤ nn ∧ i = .int .i64 (j : Int) ∧ want = .bool (meetTo L j) ∧ Vec Elem.runs wr v (L.take j) ∧ (∀ b, In v b → w.heap.size ≤ b) ∧ Below w.heap.size w wr
def Inner (w2 : World) (j : Nat) (L : List Rn) (x : Rn) (want i : Value) (wr : World) : Prop :=
  ∃ k : Nat, k ≤ j ∧ i = .int .i64 (k : Int) ∧ want = .bool (meetTo L j || metBy x L k) ∧ Below w2.heap.size w2 wr
set_option maxRecDepth 100000 in
set_option maxHeartbeats 4000000 in
theorem walk_small (w : World) (C : Ge w) {a : Option Addr} {nn cap : Nat} (L : List Rn) (hn : nn = L.length) (hq : Seq Elem.runs w (.slice a nn cap) L) (hB : ∀ x ∈ L, RnB x) (hcap : nn ≤ cap) (hcm : cap ≤ 9223372036854775807) (hlen : nn ≤ 60) :
    Calls Try.prog 5 #[.slice a nn cap] w fun e w' => e = .returned (.bool true) ∧ Below w.heap.size w w' := by
  obtain ⟨i0, hi, hz0, hz1, hz2⟩ := info_parts infoRun
  have HNN := Lib.hid hn
  have Q0 := Lib.hid hq; have HBB := Lib.hid hB
  have t0 : decide ((60 : Int) < (nn : Int)) = false := decide_eq_false (by omega)
  clear hn hq hB
  go_enter Try.func5, Try.ntmps5
  go_wp2_with fail
  refine (alive_any _ C).mono ?_; rintro e w1 ⟨rfl, hb⟩
  have B1 := Lib.hid hb
  have s1 := B1.out.size
  clear hb
  go_wp2
  clear t0
  go_loopw [3, 4, 16] (fun v want i wr => Outer w nn L v want i wr) (fun v want i _ => nn - (intOf i).toNat)
  case atStart => exact ⟨0, Nat.zero_le _, rfl, rfl, Vec.nil _, (by intro b hb; cases hb), B1.out⟩
  case round =>
    obtain ⟨j, hj, rfl, rfl, hv, hin, hb⟩ := hrel
    obtain ⟨a', cap', rfl, hvc1, hvc2⟩ := hv.slice'
    have htl : (L.take j).length = j := by rw [List.length_take]; have := HNN.out; omega
    rw [htl] at hv hin hvc1
    rw [htl]
    have V := Lib.hid hv; have N := Lib.hid hin; have B := Lib.hid hb
    have HTL := Lib.hid htl
    have sr := hb.size
    have QR := Lib.hid (Q0.out.below (Nat.le_refl _) hb)
    clear hv hin hb htl
    by_cases hjl : j < nn
    · obtain ⟨⟨xf, xs, xn⟩, hx⟩ : ∃ x, L[j]? = some x := ⟨L[j]'(by rw [← HNN.out]; exact hjl), List.getElem?_eq_getElem _⟩
      have hxb := HBB.out _ (List.mem_of_getElem? hx)
      obtain ⟨xb1, xb2, xb3, xb4⟩ : xf ≤ 18446744073709551615 ∧ xs ≤ 18446744073709551615 ∧ -9223372036854775808 ≤ xn ∧ xn ≤ 9223372036854775807 := hxb
      obtain ⟨b2, off2, rfl, hcell⟩ := QR.out.elem hx
      have d0 := hcell 0 (.int .u64 (xf : Int)) rfl
      have d1 := hcell 1 (.int .u64 (xs : Int)) rfl
      have d2 := hcell 2 (.int .i64 xn) rfl
      simp only [Elem.runs, Nat.add_zero] at d0 d1 d2
      have HX := Lib.hid hx
      have q2 : decide ((j : Int) < (nn : Int)) = true := decide_eq_true (by omega)
      have q3 : (0 : Int) ≤ (j : Int) := by omega
      have q4 : (j : Int) < (nn : Int) := by omega
      have hsl := fun w => run_cut_to (E := Elem.runs) (P := Try.prog) 46 Try.underlying46 sizeRefRun (some ⟨b2, off2, none⟩) nn cap j (by omega) w
      obtain ⟨b6, hb6⟩ : ∃ b, wr.heap.size = b := ⟨_, rfl⟩
      have K6 : Hid (Blk (wr.alloc (.cells #[.int .u64 (xf : Int), .int .u64 (xs : Int), .int .i64 xn] 37)) b6 37 (runC xf xs xn)) := Lib.hid (by rw [← hb6]; exact Blk.new wr _ _)
      have HB6 := Lib.hid hb6
      clear hcell hx
      go_wp2_with (at_builtin; refine wpList_append_vec (E := Elem.runs) rfl (.tmp 21) (.tmp 23) 47 rfl 38 i0 (.agg #[.int .u64 0, .int .u64 0, .int .i64 0]) 24 Try.underlying47 hi hz0 hz1 hz2 rfl (.slice a' j cap') (.slice (some ⟨b6 + 1, 0, none⟩) 1 1) (L.take j) [(xf, xs, xn)] rfl rfl ((V.out.alloc _).alloc _) (runs_oneAt _ _ (xf, xs, xn) _ (by simp [HB6.out])) ?_ ?_ ?_; (rw [HTL.out]; simp only [maxLen, List.length_cons, List.length_nil]; omega); (rw [HTL.out]; simp only [List.length_cons, List.length_nil]; omega); intro v2 w2 hv2 hu2 hin2; have V2 := Lib.hid hv2; have U2 := Lib.hid hu2; have N2 := Lib.hid hin2; clear hv2 hu2 hin2)
      have B2 := Lib.hid (vec_below (below_alloc2 B.out sr _ _) (Nat.le_trans sr (by simp; omega)) N.out U2.out)
      have s2 := B2.out.size
      have K6w := Lib.hid ((K6.out.alloc _).upd U2.out (fun h => by have := V.out.lt h; rw [HB6.out] at this; exact absurd this (Nat.lt_irrefl _)))
      have N3 : Hid (∀ k, In v2 k → w.heap.size ≤ k) := Lib.hid (fun k hk => by
        rcases N2.out k hk with x | x
        · exact N.out k x
        · exact Nat.le_trans (Nat.le_trans sr (by simp; omega)) x)
      have Q2 := Lib.hid (Seq.take (Q0.out.below (Nat.le_refl _) B2.out) (show j ≤ nn by omega))
      clear d0 d1 d2 q2 q3 q4 hsl hb6
      go_loopw [4, 29] (fun want i wr => Inner w2 j L (xf, xs, xn) want i wr) (fun want i _ => j - (intOf i).toNat)
      case atStart => exact ⟨0, Nat.zero_le _, rfl, by rw [metBy_zero, Bool.or_false], Below.refl _ _⟩
      case round =>
        obtain ⟨k, hk, rfl, rfl, hb⟩ := hrel
        have BQ := Lib.hid hb
        have BW := Lib.hid (below_then B2.out s2 hb)
        have sq := hb.size
        have KQ := Lib.hid (K6w.out.grew hb)
        have QQ := Lib.hid (Q2.out.below (Nat.le_refl _) hb)
        clear hb
        by_cases hkj : k < j
        · obtain ⟨⟨yf, ys, yn⟩, hy⟩ : ∃ y, L[k]? = some y := ⟨L[k]'(by have := HNN.out; omega), List.getElem?_eq_getElem _⟩
          have hyb := HBB.out _ (List.mem_of_getElem? hy)
          have HM := Lib.hid (fun w' => ref_meet w' xf xs yf ys xn yn (rnB xb1 xb2 xb3 xb4) hyb)
          obtain ⟨yb1, yb2, yb3, yb4⟩ : yf ≤ 18446744073709551615 ∧ ys ≤ 18446744073709551615 ∧ -9223372036854775808 ≤ yn ∧ yn ≤ 9223372036854775807 := hyb
          have hy2 : (L.take j)[k]? = some (yf, ys, yn) := by rw [List.getElem?_take_of_lt hkj]; exact hy
          obtain ⟨b3, off3, e3, hcell⟩ := QQ.out.elem hy2
          injection e3 with e3
          injection e3 with e3 e4 _
          subst e3 e4
          have d0 := hcell 0 (.int .u64 (yf : Int)) rfl
          have d1 := hcell 1 (.int .u64 (ys : Int)) rfl
          have d2 := hcell 2 (.int .i64 yn) rfl
          simp only [Elem.runs, Nat.add_zero] at d0 d1 d2
          have q2 : decide ((k : Int) < (j : Int)) = true := decide_eq_true (by omega)
          have q3 : (0 : Int) ≤ (k : Int) := by omega
          have q4 : (k : Int) < (j : Int) := by omega
          have hstep : metBy (xf, xs, xn) L (k + 1) = (metBy (xf, xs, xn) L k || meet2 (xf, xs, xn) (yf, ys, yn)) := by
            rw [metBy_succ _ _ (by have := HNN.out; omega), show L.getD k rn0 = (yf, ys, yn) by rw [List.getD_eq_getElem?_getD, hy]; rfl]
          obtain ⟨p, hp⟩ : ∃ p, (meetTo L j || metBy (xf, xs, xn) L k) = p := ⟨_, rfl⟩
          obtain ⟨m, hm⟩ : ∃ m, meet2 (xf, xs, xn) (yf, ys, yn) = m := ⟨_, rfl⟩
          have HST : Hid ((meetTo L j || metBy (xf, xs, xn) L (k + 1)) = (p || m)) := Lib.hid (by rw [hstep, ← Bool.or_assoc, hp, hm])
          rw [hm] at HM
          rw [hp]
          unfold runV at HM
          have g0 : (wr.alloc (.cells #[.int .u64 (yf : Int), .int .u64 (ys : Int), .int .i64 yn] 37)).cell? ⟨b6, 0, none⟩ = some (.int .u64 (xf : Int)) := (KQ.out.alloc _).cell 0
          have g1 : (wr.alloc (.cells #[.int .u64 (yf : Int), .int .u64 (ys : Int), .int .i64 yn] 37)).cell? ⟨b6, 1, none⟩ = some (.int .u64 (xs : Int)) := (KQ.out.alloc _).cell 1
          have g2 : (wr.alloc (.cells #[.int .u64 (yf : Int), .int .u64 (ys : Int), .int .i64 yn] 37)).cell? ⟨b6, 2, none⟩ = some (.int .i64 xn) := (KQ.out.alloc _).cell 2
          clear hcell hy hy2 hstep hp hm
          cases p with
          | true =>
            go_wp2
            go_roundw
            case rel => exact ⟨k + 1, by omega, by go_num, by rw [HST.out]; rfl, BQ.out.alloc sq _⟩
            case measure => simp [intOf]; omega
          | false =>
            go_wp2_with fail
            refine (HM.out _).mono ?_; rintro e w5 ⟨rfl, hb⟩
            have B5 := Lib.hid (below_then (BQ.out.alloc sq _) (Nat.le_trans sq (by simp)) hb)
            clear hb g0 g1 g2 d0 d1 d2
            go_wp2
            go_roundw
            case rel => exact ⟨k + 1, by omega, by go_num, by rw [HST.out]; rfl, B5.out⟩
            case measure => simp [intOf]; omega
        · obtain rfl : k = j := by omega
          have q2 : decide ((k : Int) < (k : Int)) = false := decide_eq_false (by omega)
          have hfin : (meetTo L k || metBy (xf, xs, xn) L k) = meetTo L (k + 1) := by
            rw [meetTo_succ, show L.getD k rn0 = (xf, xs, xn) by rw [List.getD_eq_getElem?_getD, HX.out]; rfl]; rfl
          have htk : L.take (k + 1) = L.take k ++ [(xf, xs, xn)] := by rw [List.take_add_one, HX.out]; rfl
          have HFIN := Lib.hid hfin
          have HTK := Lib.hid htk
          rw [hfin]
          clear hfin htk
          go_wp2
          go_roundw
          case rel =>
            refine ⟨k + 1, by omega, by go_num, rfl, ?_, N3.out, BW.out⟩
            rw [HTK.out]
            exact V2.out.upd (updFalse_of BQ.out) (fun _ _ => id)
          case measure => simp [intOf]; omega
    · obtain rfl : j = nn := by omega
      have q2 : decide ((j : Int) < (j : Int)) = false := decide_eq_false (by omega)
      have htk : L.take j = L := by rw [HNN.out, List.take_length]
      have hfin : meetTo L j = meetN L := by rw [HNN.out]; rfl
      have VS := V.out.seq
      rw [htk] at VS
      have HM := C.meet wr B.out _ j cap' L VS hvc1 hvc2 (by omega) HBB.out
      obtain ⟨m, hm⟩ : ∃ m, meetN L = m := ⟨_, rfl⟩
      rw [hm] at HM hfin
      rw [hfin]
      have HMM := Lib.hid HM
      have t6 : (m == m) = true := by simp
      clear htk hfin VS HM hm
      go_wp2_with fail
      refine HMM.out.mono ?_; rintro e w5 ⟨rfl, hb⟩
      have B5 := Lib.hid (below_then B.out sr hb)
      clear hb
      go_wp2
      go_ret
      exact ⟨rfl, B5.out⟩
theorem walk_great (w : World) (C : Ge w) {a : Option Addr} {nn cap : Nat} (hlen : 60 < nn) :
    Calls Try.prog 5 #[.slice a nn cap] w fun e w' => e = .returned (.bool true) ∧ Below w.heap.size w w' := by
  have t0 : decide ((60 : Int) < (nn : Int)) = true := decide_eq_true (by omega)
  clear hlen
  go_enter Try.func5, Try.ntmps5
  go_wp2_with fail
  refine (alive_any _ C).mono ?_; rintro e w1 ⟨rfl, hb⟩
  have B1 := Lib.hid hb
  clear hb
  go_wp2
  go_ret
  exact ⟨rfl, B1.out⟩
theorem walk_of (w : World) (C : Ge w) {a : Option Addr} {nn cap : Nat} (len : Nat) (F : Nat → Nat → Value) (h : Recs w (.slice a nn cap) [.num .u64, .num .u64, .num .i64] len F) :
    Calls Try.prog 5 #[.slice a nn cap] w fun e w' => e = .returned (.bool true) ∧ Below w.heap.size w w' := by
  obtain ⟨L, hn, hq, hB, hc1, hc2⟩ := h.runs
  rcases Nat.lt_or_ge 60 nn with hl | hl
  · exact walk_great w C hl
  · exact walk_small w C L hn hq hB hc1 hc2 hl
end geoMeets
end Go.Proofs.Ytophomnbclgjfaa
