/- The law HeapFull, walked. -/
import Derived.Test.YtfdnmoedejejlaaGreatDoorAlives12
import Derived.Test.YtfdnmoedejejlaaGreatDoorGets12
import Derived.Test.YtfdnmoedejejlaaGreatDoorFulls12
import Derived.Test.YtfdnmoedejejlaaGreatDoorKn
import Derived.Test.YtfdnmoedejejlaaGreatDoorClasses12
import Derived.Deep.RegionHeld3
namespace Go.Proofs.YtfdnmoedejejlaaGreatDoor.heapFull
open Go.RowKit ListMath PageMath GeoMath SegMath ClassMath HeapMath QueueMath ArenaMath
set_option linter.unusedVariables false

theorem u8_bd {n : Int} (h : (Lit.int .u8 n).wf = true) : 0 ≤ n ∧ n ≤ 255 := by
  simp [Lit.wf, IntKind.min, IntKind.max, IntKind.signed, IntKind.bits] at h; omega
theorem u16_bd {n : Int} (h : (Lit.int .u16 n).wf = true) : 0 ≤ n ∧ n ≤ 65535 := by
  simp [Lit.wf, IntKind.min, IntKind.max, IntKind.signed, IntKind.bits] at h; omega
theorem fullI_zero (c : Nat) : FullI c h0 := by constructor <;> exact fun X hX => (List.not_mem_nil hX).elim
def lenV : Value → Nat
  | .slice _ n _ => n
  | _ => 0
/-- Blocks of class c came, one behind the other. -/
def FillR (w : World) {C : SgC w} (K : HpC w C) (h p g q c : Nat) (v : Value) (wr : World) : Prop :=
  ∃ (H : HS) (A : St) (L U : List Nat), OM C K h 7 p g q H A L U v U wr ∧ FullI c H ∧ FullA A ∧ A.r ≤ U.length ∧ U.length ≤ 1920
theorem count_le {c : Nat} {H : HS} {L U : List Nat} (g : GoodH H) (f : FullI c H) (h : HU H L U) (hc : c < 12) (hB : H.B.length ≤ 2) : U.length ≤ 1920 := by
  rw [h.count g]
  have key : ∀ B : List SG, (∀ X ∈ B, X ∈ H.B) → ((B.flatMap fun X => X.L).map fun o => (U.filter (inRun o.P)).length).sum ≤ B.length * 960 := fun B => by
    induction B with
    | nil => intro _; simp
    | cons X t ih =>
      intro hB
      have ih := ih fun Y hY => hB Y (List.mem_cons_of_mem _ hY)
      have hX := hB X (List.mem_cons_self ..)
      rw [List.flatMap_cons, List.map_append, List.sum_append, List.length_cons]
      have hl : X.L.length ≤ 15 := by have := pos_lt (slices_bounds hc).1 (f.pos X hX).2; omega
      have e : ∀ l : List OwR, (∀ o ∈ l, o ∈ X.L) → (l.map fun o => (U.filter (inRun o.P)).length).sum ≤ l.length * 64 := fun l => by
        induction l with
        | nil => intro _; simp
        | cons o s ih2 =>
          intro hs
          have ih2 := ih2 fun y hy => hs y (List.mem_cons_of_mem _ hy)
          have ho := hs o (List.mem_cons_self ..)
          obtain ⟨k1, P, k2⟩ := h.wh X hX o ho
          have h1 := k2.add; have h2 := k1.made; have h3 := k2.use
          have h4 := page_n g f hX ho
          have h5 := (size_class c hc).2.2.2.1
          rw [List.map_cons, List.sum_cons, List.length_cons]
          omega
      have := e X.L fun o ho => ho
      omega
  have := key H.B fun X hX => hX
  omega
set_option maxHeartbeats 400000 in
set_option maxRecDepth 100000 in
theorem walk_of (w : World) {C : SgC w} (K : HpC w C) (F : Fo w) (N : Kn w) (n : Int) (h1 : (Lit.int .u8 n).wf = true) (m : Int) (h2 : (Lit.int .u16 m).wf = true) :
    Calls Tryz.prog 7 #[.int .u8 n, .int .u16 m] w fun e w' => e = .returned (.bool true) ∧ Below w.heap.size w w' := by
  have b1 := u8_bd h1
  have b2 := u16_bd h2
  obtain ⟨n, rfl⟩ := Int.eq_ofNat_of_zero_le b1.1
  obtain ⟨m, rfl⟩ := Int.eq_ofNat_of_zero_le b2.1
  obtain ⟨c, hc⟩ : ∃ c, n % 12 = c := ⟨_, rfl⟩
  have hc1 : c < 12 := by omega
  have hc1' := hc1
  have hm1 : Int.tmod (n : Int) 12 = (c : Int) := by rw [← hc]; exact (Int.ofNat_tmod _ _).symm
  have hm2 : (n : Int) % 12 = (c : Int) := by omega
  have AL := Lib.hid (alive_h w K F)
  have N1 := Lib.hid (N.size c hc1)
  obtain ⟨i0, hi, hz0, hz1, hz2⟩ := info_parts infoU64
  obtain ⟨sz, hsz⟩ : ∃ s, sizeAt c = s := ⟨_, rfl⟩
  have HSZ := Lib.hid hsz
  have hszb := size_bounds hc1
  rw [hsz] at hszb
  rw [hsz] at N1
  have b1' : n ≤ 255 := by omega
  have b2' : m ≤ 65535 := by omega
  clear h1 h2 b1 b2 hc hsz
  go_enter Tryz.func7, Tryz.ntmps7
  go_wp2_with fail
  refine AL.out.mono ?_; rintro e w1 ⟨rfl, hb⟩
  have B1 := Lib.hid hb
  clear hb
  go_wp2_with fail
  refine (made_any (K := K) B1.out (segs := 2) (lim := 2) (by decide) (by decide) (by decide)).mono ?_; rintro e w2 ⟨h, p, g, q, rfl, z⟩
  obtain ⟨L0, hL0, zx⟩ := z.ox
  have Z2 := Lib.hid zx
  have HL0 := Lib.hid hL0
  clear z zx hL0
  go_wp2_with fail
  refine (N1.out w2 Z2.out.below).mono ?_; rintro e w3 ⟨rfl, hb⟩
  have Z3 := Lib.hid (Z2.out.grew hb)
  have I0 := Lib.hid (show FillR w K h p g q c (.slice none 0 0) w3 from ⟨_, _, _, _, Z3.out.om, fullI_zero c, ⟨rfl, rfl, rfl⟩, Nat.le_refl _, Nat.zero_le _⟩)
  clear hb
  go_wp2
  go_loopw [12] (fun v wr => FillR w K h p g q c v wr) (fun v _ => 1921 - lenV v)
  case atStart => exact I0.out
  case round =>
    clear I0
    obtain ⟨H, A, L, U, hm, hf, hA, hr, hU⟩ := hrel
    obtain ⟨a', cap', rfl, hc1, hc2⟩ := hm.slice
    have HM := Lib.hid hm
    have HF := Lib.hid (And.intro hf hA)
    have HR := Lib.hid hr
    have HU' := Lib.hid hU
    clear hm hf hA hr hU
    go_wp2_with fail
    refine (get_any F HM.out.z (by have := HR.out; have := HU'.out; omega) sz (by omega)).mono ?_; rintro e w4 ⟨x, us, ok, P, H', A', L', rfl, gt⟩
    have hP := gt.plan
    rw [← HSZ.out, (plan_size c hc1').1, (plan_size c hc1').2] at hP
    injection hP with hP _
    subst hP
    have GT := Lib.hid gt
    clear gt
    cases ok with
    | true =>
      obtain ⟨_, hx, y4, _⟩ := GT.out.hit rfl
      have hm4 := HM.out.next y4 GT.out.still
      have hf4 := HF.out.1.way HM.out.z.good hc1' GT.out.way
      have hA4 := fullA_way HF.out.2 GT.out.way
      have hr4 : A'.r ≤ U.length + 1 := by have := GT.out.r; have := HR.out; omega
      have hU4 : (U ++ [x]).length ≤ 1920 := by
        refine count_le y4.good hf4 y4.hu hc1' ?_
        obtain ⟨g1, g2, _⟩ := y4.oh.arena
        have := arena_len y4.good g1 g2
        have h3 := g1.sum
        rw [hA4.2.1] at h3
        omega
      have hU5 : U.length + 1 ≤ 1920 := by simpa using hU4
      have Z4 := Lib.hid hm4; have F4 := Lib.hid (And.intro hf4 hA4); have R4 := Lib.hid hr4
      clear hx y4 hm4 hf4 hA4 hr4 hU4
      have t5 : decide (5000 < ((U.length + 1 : Nat) : Int)) = false := decide_eq_false (by omega)
      have t5' : decide (5000 < (U.length : Int) + 1) = false := decide_eq_false (by omega)
      have e5 : (U ++ [x]).length = U.length + 1 := by simp
      go_wp2_with (at_builtin; refine wpList_append_vec (E := Elem.u64s) rfl (.tmp 50) (.tmp 52) 39 rfl 38 i0 (.int .u64 0) 8 Tryz.underlying39 hi hz0 hz1 hz2 rfl (.slice a' U.length cap') (.slice (some ⟨w4.heap.size, 0, none⟩) 1 1) U [x] rfl rfl (Z4.out.alloc _).vec (u64_oneAt w4 38 x _ rfl) ?_ ?_ ?_; (simp only [maxLen, List.length_cons, List.length_nil]; omega); (simp only [List.length_cons, List.length_nil]; omega); intro v2 w7 hv2 hu2 hin2; obtain ⟨a2, cap2, rfl, hc3, hc4⟩ := hv2.slice'; rw [e5] at hv2 hin2 ⊢; have Z7 := Lib.hid ((Z4.out.alloc _).app hv2 hu2 hin2); clear hv2 hu2 hin2)
      refine ⟨⟨H', A', L', U ++ [x], Z7.out, F4.out.1, F4.out.2, by rw [e5]; exact R4.out, by rw [e5]; exact hU5⟩, ?_⟩
      show 1921 - (U.length + 1) < 1921 - U.length
      omega
    | false =>
      obtain ⟨k1, k2, k3, k4, k5⟩ := way_none HM.out.z.good HF.out.1 hc1' GT.out.way
      have y4 := GT.out.miss rfl
      have hm4 := HM.out.next y4 GT.out.still
      have hf4 := HF.out.1.way HM.out.z.good hc1' GT.out.way
      have hB : H.B.length = 2 := by
        obtain ⟨g1, g2, _⟩ := HM.out.z.oh.arena
        rw [← arena_len HM.out.z.good g1 g2]
        exact arena_two HF.out.2 g1 k3 fun x hx => by obtain ⟨X, _, e⟩ := (g2 x).1 hx; rw [e]
      have hT : total A'.l = 2 := by
        obtain ⟨g1, g2, _⟩ := y4.oh.arena
        rw [arena_len y4.good g1 g2, k5, hB]
      have hcnt := full_count y4.good hf4 y4.hu k1 k2
      rw [k5, hB] at hcnt
      obtain ⟨wd, hwd⟩ : ∃ wd, slicesAt c = wd := ⟨_, rfl⟩
      obtain ⟨nb, hnb⟩ : ∃ nb, blocksAt c = nb := ⟨_, rfl⟩
      have z2 := slices_bounds hc1'
      have z3 := size_class c hc1'
      have RS := Lib.hid (fun w => ref_slices w c hc1')
      have RB := Lib.hid (fun w => ref_blocks w c hc1')
      rw [hwd] at hcnt z2 RS
      rw [hnb] at hcnt RB
      rw [hwd, hnb] at z3
      obtain ⟨t, ht⟩ : ∃ t, 15 / wd = t := ⟨_, rfl⟩
      obtain ⟨per, hper⟩ : ∃ per, t * nb = per := ⟨_, rfl⟩
      rw [ht, hper] at hcnt
      have ht3 : 3 ≤ t ∧ t ≤ 15 := by
        rw [← ht]
        exact ⟨(Nat.le_div_iff_mul_le (by omega)).2 (by omega), Nat.div_le_of_le_mul (by omega)⟩
      have hp9 : 9 ≤ per ∧ per ≤ 960 := by
        rw [← hper]
        exact ⟨Nat.mul_le_mul ht3.1 z3.2.2.1, Nat.mul_le_mul ht3.2 z3.2.2.2.1⟩
      have q1 : Int.tdiv 15 (wd : Int) = (t : Int) := by rw [← ht]; rfl
      have q1' : (15 : Int) / (wd : Int) = (t : Int) := by rw [← ht]; rfl
      have q2 : (t : Int) * (nb : Int) = (per : Int) := by rw [← hper]; exact (Int.natCast_mul _ _).symm
      have q3 : (wd : Int) ≠ 0 := by omega
      have q3' : ((wd : Int) == 0) = false := by rw [beq_eq_false_iff_ne]; omega
      obtain ⟨M, hM⟩ : ∃ M, U.length = M := ⟨_, rfl⟩
      have q4 : ((M : Int) != 2 * (per : Int)) = false := by rw [bne_eq_false_iff_eq]; omega
      have hM9 : 18 ≤ M ∧ M ≤ 1920 := by omega
      have HMM := Lib.hid (And.intro hM hcnt)
      rw [hM]
      rw [hM] at hc1 hm4
      have Z4 := Lib.hid hm4; have F4 := Lib.hid (And.intro hf4 k1); have T4 := Lib.hid hT
      have R4 : Hid (A'.r ≤ 1921) := Lib.hid (by have := GT.out.r; have := HR.out; have := HU'.out; omega)
      have BB := Lib.hid (Below.refl w4.heap.size w4)
      clear k1 k2 k3 k4 k5 y4 hm4 hf4 hB hT hcnt hwd hnb ht hper hM z3
      go_wp2
      go_region_with (first
        | (go_at_call 35; refine (RS.out _).mono ?_; rintro e w6 ⟨rfl, hb⟩; have BB := Lib.hid (show Below w4.heap.size w4 w6 from by first | exact below_then BB.out BB.out.size hb | exact below_then BB.out.drew BB.out.size hb); clear hb)
        | (go_at_call 36; refine (RB.out _).mono ?_; rintro e w6 ⟨rfl, hb⟩; have BB := Lib.hid (show Below w4.heap.size w4 w6 from by first | exact below_then BB.out BB.out.size hb | exact below_then BB.out.drew BB.out.size hb); clear hb))
      all_goals
        have Z6 := Lib.hid (Z4.out.grew BB.out)
        go_wp2_with fail
        refine (oh_given Z6.out.z.oh).mono ?_; rintro e w8 ⟨rfl, hb⟩
        have Z8 := Lib.hid (Z6.out.grew hb)
        rw [T4.out]
        clear hb
        go_wp2_with fail
        refine (ox_local Z8.out.z (by unfold I64B; omega)).mono ?_; rintro e w9 ⟨x9, er9, H9, L9, rfl, l9, e9, u9, hcase, heq⟩
        injection heq with f1 f2; injection f2 with f2 f3
        have her : er9 = 4 := by rw [f2]; exact local_full Z8.out.z.good hc1' F4.out.2
        subst her
        rcases hcase with ⟨h0, _⟩ | ⟨_, rfl, hB9, y9⟩
        · exact absurd h0 (by decide)
        have hm9 := Z8.out.next y9 u9
        have hf9 : FullI c H9 := by rw [f3]; exact F4.out.1.local' Z8.out.z.good hc1'
        have hk9 : ∀ X ∈ H9.B, ∀ o ∈ X.L, FullP o.P := by rw [hB9]; exact F4.out.2
        obtain ⟨i, hi'⟩ : ∃ i, m % M = i := ⟨_, rfl⟩
        have hiM : i < M := by rw [← hi']; exact Nat.mod_lt _ (by omega)
        have r1 : Int.tmod (m : Int) (M : Int) = (i : Int) := by rw [← hi']; exact (Int.ofNat_tmod _ _).symm
        have r2 : (m : Int) % (M : Int) = (i : Int) := by rw [← hi']; exact (Int.natCast_emod _ _).symm
        have r3 : ¬ (M : Int) = 0 := by omega
        have r4 : ((M : Int) == 0) = false := by rw [beq_eq_false_iff_ne]; omega
        obtain ⟨y, hy⟩ : ∃ y, U[i]? = some y := ⟨_, List.getElem?_eq_getElem (by rw [HMM.out.1]; exact hiM)⟩
        obtain ⟨bv, ov, rfl, _⟩ := hm9.vec.seq.elem hy
        have c9 := hm9.cell hy
        have hyU : y ∈ U := List.mem_of_getElem? hy
        have hy64 : U64B y := hm9.z.u64 hyU
        have Z9 := Lib.hid hm9; have F9 := Lib.hid (And.intro hf9 hk9); have HY := Lib.hid (And.intro hy (And.intro hyU hy64))
        clear hm9 hf9 hk9 hi' hy hyU y9 u9 l9 e9 f1 f3 hB9 hy64
        go_wp2_with fail
        refine (ox_free Z9.out.z (List.perm_cons_erase HY.out.2.1).symm HY.out.2.2).mono ?_; rintro e w10 ⟨rfl, L10, l10, e10, y10, u10⟩
        obtain ⟨X, hX, o, ho, hfree, hF⟩ := free_full (A := A') Z9.out.z.good Z9.out.z.hu F9.out.1 F9.out.2 hc1' HY.out.2.1
        rw [hfree] at y10
        have hm10 := Z9.out.next y10 u10
        have Z10 := Lib.hid hm10; have HX := Lib.hid (And.intro hX (And.intro ho hF))
        clear hm10 y10 u10 l10 e10 hX ho hF hfree c9
        go_wp2_with fail
        refine (get_any F Z10.out.z (by have := R4.out; show A'.r ≤ 1000000; omega) sz (by omega)).mono ?_; rintro e w11 ⟨x2, us2, ok2, P2, H11, A11, L11, rfl, gt2⟩
        have hP := gt2.plan
        rw [← HSZ.out, (plan_size c hc1').1, (plan_size c hc1').2] at hP
        injection hP with hP _
        subst hP
        obtain ⟨rfl, rfl⟩ := get_again Z9.out.z.good F9.out.1 F9.out.2 hc1' HX.out.1 HX.out.2.1 HX.out.2.2 gt2.way
        have hm11 := Z10.out.next (gt2.hit rfl).2.2.1 gt2.still
        have c11 := hm11.cell HY.out.1
        have Z11 := Lib.hid hm11
        clear hm11 gt2
        go_wp2_with fail
        go_ret
        exact ⟨rfl, Z11.out.z.below⟩
end Go.Proofs.YtfdnmoedejejlaaGreatDoor.heapFull
