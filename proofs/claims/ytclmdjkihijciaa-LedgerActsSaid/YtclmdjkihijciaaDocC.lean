/- The document's ledger: Free, Bytes. -/
import Derived.Test.YtclmdjkihijciaaHeld15
namespace Go.Proofs.Ytclmdjkihijciaa
open Go.RowKit LedMath
set_option linter.unusedVariables false

set_option maxRecDepth 100000 in
set_option maxHeartbeats 4000000 in
theorem doc_Free0 (w : World) {mb a : Nat} {T : Nat → Prop} {M : List En} (h : DL w mb T M) : Calls Try.prog 24 #[ptrV mb 0, .int .u64 (a : Int), .int .u64 0] w fun r w' => r = .returned (.bool true) ∧ Below w.heap.size w w' := by
  have I0 := Lib.hid (show FrR w M a 0 (.int .i64 0) w from ⟨0, Nat.zero_le _, rfl, fun t e ht => absurd ht (Nat.not_lt_zero _), Below.refl _ _⟩)
  obtain ⟨a1, c1, a2, c2, m0, m1, s1, s2⟩ := h.open
  have S1 := Lib.hid s1
  obtain ⟨l, hN⟩ : ∃ l, M.length = l := ⟨_, rfl⟩
  have HN := Lib.hid hN
  rw [hN] at m0 m1 S1
  have hnb : l ≤ 1048576 := by rw [← hN]; exact h.good.len
  clear h s1 s2 hN
  go_enter Try.func24, Try.ntmps24
  go_wp2
  go_loopw [24] (fun i wr => FrR w M a 0 i wr) (fun i _ => l - (intOf i).toNat)
  case atStart => exact I0.out
  case round =>
    clear I0
    obtain ⟨j, hj, rfl, hno, hb⟩ := hrel
    rw [HN.out] at hj
    have B := Lib.hid hb
    by_cases hjn : j < l
    · have t2 : decide (j < l) = true := decide_eq_true hjn
      have t2' : decide ((j : Int) < (l : Int)) = true := decide_eq_true (by omega)
      obtain ⟨e, he⟩ : ∃ e, M[j]? = some e := ⟨_, List.getElem?_eq_getElem (by rw [HN.out]; exact hjn)⟩
      obtain ⟨b, off, ea', k0, k1, k2⟩ := (S1.out wr hb).blk (i := j) (x := e.b) (by rw [List.getElem?_map, he]; rfl)
      subst ea'
      obtain ⟨ea, hea⟩ : ∃ ea, e.b.1 = ea := ⟨_, rfl⟩
      obtain ⟨en, hen⟩ : ∃ en, e.b.2.1 = en := ⟨_, rfl⟩
      obtain ⟨eg, heg⟩ : ∃ eg, e.b.2.2 = eg := ⟨_, rfl⟩
      rw [hea] at k0
      rw [hen] at k1
      rw [heg] at k2
      have q3 : (0 : Int) ≤ (j : Int) := by omega
      have q4 : (j : Int) < (l : Int) := by omega
      clear he hno hb hea hen heg
      go_wp2_with fail
      go_quiet (fail)
      go_wp2
      go_roundw
      case rel => exact ⟨j + 1, by rw [HN.out]; omega, by go_num, fun _ _ _ _ h => absurd h (Nat.lt_irrefl 0), (by first | exact B.out.alloc B.out.size _ | exact (B.out.alloc B.out.size _).drew | exact below_drewN (B.out.alloc B.out.size _) _)⟩
      case measure => simp [intOf] <;> omega
    · obtain rfl : j = l := by omega
      have t2 : decide (j < j) = false := decide_eq_false hjn
      have t2' : decide ((j : Int) < (j : Int)) = false := decide_eq_false (by omega)
      clear hno hb hjn
      go_wp2_with fail
      go_ret
      exact ⟨rfl, B.out⟩
set_option maxRecDepth 100000 in
set_option maxHeartbeats 8000000 in
theorem doc_Free1 (w : World) {mb a n : Nat} {T : Nat → Prop} {M : List En} (h : DL w mb T M) (ha : U64B a) (hn : U64B n) (h0 : 0 < n) : Calls Try.prog 24 #[ptrV mb 0, .int .u64 (a : Int), .int .u64 (n : Int)] w fun r w' => r = .returned (.bool (freeL M a n)) ∧ Below w.heap.size w w' := by
  have t0 : decide (0 < n) = true := decide_eq_true h0
  have t0' : decide ((0 : Int) < (n : Int)) = true := decide_eq_true (by omega)
  obtain ⟨m, hm⟩ : ∃ m, n - 1 = m := ⟨_, rfl⟩
  have w1 : IntKind.u64.wrap ((n : Int) - 1) = (m : Int) := by rw [IntKind.wrap_u64]; unfold U64B at *; omega
  by_cases hw : a + n ≤ 18446744073709551616
  · obtain ⟨t, ht⟩ : ∃ t, a + m = t := ⟨_, rfl⟩
    have w2 : IntKind.u64.wrap ((a : Int) + (m : Int)) = (t : Int) := by rw [IntKind.wrap_u64]; unfold U64B at *; omega
    have t1 : decide (t < a) = false := decide_eq_false (by omega)
    have t1' : decide ((t : Int) < (a : Int)) = false := decide_eq_false (by omega)
    have I0 := Lib.hid (show FrR w M a n (.int .i64 0) w from ⟨0, Nat.zero_le _, rfl, fun t e ht => absurd ht (Nat.not_lt_zero _), Below.refl _ _⟩)
    have FT := Lib.hid (show (∃ e ∈ M, e.a ≤ t ∧ a < e.z) → freeL M a n = false from fun ⟨e, he, h1, h2⟩ => by
      have : metL M a n = true := metL_iff.2 ⟨e, he, by omega, h2⟩
      simp [freeL, this]; omega)
    have FF := Lib.hid (show (∀ e ∈ M, ¬ (e.a < a + n ∧ a < e.z)) → freeL M a n = true from fun hh => by
      have : metL M a n = false := by
        rw [← Bool.not_eq_true, metL_iff]
        rintro ⟨e, he, h1⟩
        exact hh e he h1
      simp [freeL, this, hw])
    have TN := Lib.hid (show ∀ x : Nat, x ≤ t ↔ x < a + n by omega)
    obtain ⟨r0, hr0⟩ : ∃ r0, freeL M a n = r0 := ⟨_, rfl⟩
    rw [hr0] at FT FF ⊢
    obtain ⟨a1, c1, a2, c2, m0, m1, s1, s2⟩ := h.open
    have S1 := Lib.hid s1
    have G := Lib.hid h.good
    obtain ⟨l, hN⟩ : ∃ l, M.length = l := ⟨_, rfl⟩
    have HN := Lib.hid hN
    rw [hN] at m0 m1 S1
    have hnb : l ≤ 1048576 := by rw [← hN]; exact h.good.len
    have P0 := Lib.hid h0
    clear h s1 s2 hN hr0 hw ht hm h0
    go_enter Try.func24, Try.ntmps24
    go_wp2
    go_loopw [24] (fun i wr => FrR w M a n i wr) (fun i _ => l - (intOf i).toNat)
    case atStart => exact I0.out
    case round =>
      clear I0
      obtain ⟨j, hj, rfl, hno, hb⟩ := hrel
      rw [HN.out] at hj
      have B := Lib.hid hb
      have NO := Lib.hid hno
      by_cases hjn : j < l
      · have t2 : decide (j < l) = true := decide_eq_true hjn
        have t2' : decide ((j : Int) < (l : Int)) = true := decide_eq_true (by omega)
        obtain ⟨e, he⟩ : ∃ e, M[j]? = some e := ⟨_, List.getElem?_eq_getElem (by rw [HN.out]; exact hjn)⟩
        obtain ⟨b, off, ea', k0, k1, k2⟩ := (S1.out wr hb).blk (i := j) (x := e.b) (by rw [List.getElem?_map, he]; rfl)
        subst ea'
        have hz1 := G.out.lt (List.mem_of_getElem? he)
        have HE := Lib.hid he
        obtain ⟨ea, hea⟩ : ∃ ea, e.a = ea := ⟨_, rfl⟩
        obtain ⟨en, hen⟩ : ∃ en, e.n = en := ⟨_, rfl⟩
        obtain ⟨eg, heg⟩ : ∃ eg, e.g = eg := ⟨_, rfl⟩
        obtain ⟨z, hz⟩ : ∃ z, e.z = z := ⟨_, rfl⟩
        obtain ⟨tk, htk⟩ : ∃ t : Nat, max en 1 = t := ⟨_, rfl⟩
        obtain ⟨zp, hzp⟩ : ∃ zp, z - 1 = zp := ⟨_, rfl⟩
        have ez : z = ea + tk := by rw [← hz, ← hea, ← htk, ← hen]; rfl
        have EA := Lib.hid hea; have EZ := Lib.hid hz
        rw [show e.b.1 = ea from hea] at k0
        rw [show e.b.2.1 = en from hen] at k1
        rw [show e.b.2.2 = eg from heg] at k2
        rw [hz] at hz1
        have q3 : (0 : Int) ≤ (j : Int) := by omega
        have q4 : (j : Int) < (l : Int) := by omega
        have sz : (ea : Int) + (tk : Int) = (z : Int) := by omega
        have s3 : IntKind.u64.wrap (z : Int) = (z : Int) := u64_in _ ⟨by omega, by omega⟩
        have s4 : IntKind.u64.wrap ((z : Int) - 1) = (zp : Int) := by rw [IntKind.wrap_u64]; omega
        have bst := BoxB.start wr ea en eg
        have ST := Lib.hid bst
        obtain ⟨c0, c1x, c2x⟩ := bst.c
        have HT : Hid (∀ w', BoxB wr wr.heap.size ea en eg w' → Calls Try.prog 41 #[.agg #[.int .u64 (ea : Int), .int .u64 (en : Int), .int .u64 (eg : Int)]] w' fun r w2 => r = .returned (.int .u64 (tk : Int)) ∧ BoxB wr wr.heap.size ea en eg w2) := Lib.hid fun w' k => by
          have := doc_takes w' ea en eg
          rw [htk] at this
          exact this.mono fun r w2 h => ⟨h.1, k.grew h.2⟩
        have ZP := Lib.hid (show a ≤ zp ↔ a < z by omega)
        clear he hno hb hea hen heg hz htk bst ez hzp
        by_cases hx : a ≤ zp
        · have t3 : decide (a ≤ zp) = true := decide_eq_true hx
          have t3' : decide ((a : Int) ≤ (zp : Int)) = true := decide_eq_true (by omega)
          by_cases hxz : ea ≤ t
          · have t4 : decide (ea ≤ t) = true := decide_eq_true hxz
            have t4' : decide ((ea : Int) ≤ (t : Int)) = true := decide_eq_true (by omega)
            have FIN := Lib.hid (FT.out ⟨e, List.mem_of_getElem? HE.out, by rw [EA.out]; exact hxz, by rw [EZ.out]; exact ZP.out.1 hx⟩)
            clear hx hxz
            go_wp2_with fail
            go_region_held3 (fun w' => w'.cell? ⟨wr.heap.size, 0, none⟩ = some (.int .u64 (ea : Int)) ∧ w'.cell? ⟨wr.heap.size, 1, none⟩ = some (.int .u64 (en : Int)) ∧ w'.cell? ⟨wr.heap.size, 2, none⟩ = some (.int .u64 (eg : Int))) (first | go_keep | exact ⟨c0, c1x, c2x⟩)
              (first
                | (go_at_call 41; (first | (with_reducible refine (HT.out _ (ST.out.drewN _)).mono ?_) | (with_reducible refine (HT.out _ ST.out.drew).mono ?_) | (with_reducible refine (HT.out _ ST.out).mono ?_)); rintro r w5 ⟨rfl, hst⟩; obtain ⟨c0, c1x, c2x⟩ := hst.c; have ST := Lib.hid hst; clear hst))
            have B5 := Lib.hid (B.out.trans (ST.out.below.mono B.out.size))
            go_wp2_with fail
            go_ret
            exact ⟨by rw [FIN.out]; rfl, B5.out⟩
          · have t4 : decide (ea ≤ t) = false := decide_eq_false hxz
            have t4' : decide ((ea : Int) ≤ (t : Int)) = false := decide_eq_false (by omega)
            have NO2 := Lib.hid (show ∀ i f, i < j + 1 → M[i]? = some f → 0 < n → ¬ (f.a < a + n ∧ a < f.z) from fun i f hi hf h1 => by
              by_cases h : i = j
              · subst h; rw [HE.out] at hf; injection hf with hf; subst hf; rintro ⟨g1, g2⟩; rw [EA.out] at g1; exact hxz ((TN.out _).2 g1)
              · exact NO.out i f (by omega) hf h1)
            clear hx hxz
            go_wp2_with fail
            go_region_held3 (fun w' => w'.cell? ⟨wr.heap.size, 0, none⟩ = some (.int .u64 (ea : Int)) ∧ w'.cell? ⟨wr.heap.size, 1, none⟩ = some (.int .u64 (en : Int)) ∧ w'.cell? ⟨wr.heap.size, 2, none⟩ = some (.int .u64 (eg : Int))) (first | go_keep | exact ⟨c0, c1x, c2x⟩)
              (first
                | (go_at_call 41; (first | (with_reducible refine (HT.out _ (ST.out.drewN _)).mono ?_) | (with_reducible refine (HT.out _ ST.out.drew).mono ?_) | (with_reducible refine (HT.out _ ST.out).mono ?_)); rintro r w5 ⟨rfl, hst⟩; obtain ⟨c0, c1x, c2x⟩ := hst.c; have ST := Lib.hid hst; clear hst))
            have B5 := Lib.hid (B.out.trans (ST.out.below.mono B.out.size))
            go_wp2_with fail
            go_roundw
            case rel => exact ⟨j + 1, by rw [HN.out]; omega, by go_num, NO2.out, B5.out⟩
            case measure => simp [intOf] <;> omega
        · have t3 : decide (a ≤ zp) = false := decide_eq_false hx
          have t3' : decide ((a : Int) ≤ (zp : Int)) = false := decide_eq_false (by omega)
          have NO2 := Lib.hid (show ∀ i f, i < j + 1 → M[i]? = some f → 0 < n → ¬ (f.a < a + n ∧ a < f.z) from fun i f hi hf h1 => by
            by_cases h : i = j
            · subst h; rw [HE.out] at hf; injection hf with hf; subst hf; rintro ⟨g1, g2⟩; rw [EZ.out] at g2; exact hx (ZP.out.2 g2)
            · exact NO.out i f (by omega) hf h1)
          clear hx
          go_wp2_with fail
          refine wp_region_held_drew (S := (fun w' => w'.cell? ⟨wr.heap.size, 0, none⟩ = some (.int .u64 (ea : Int)) ∧ w'.cell? ⟨wr.heap.size, 1, none⟩ = some (.int .u64 (en : Int)) ∧ w'.cell? ⟨wr.heap.size, 2, none⟩ = some (.int .u64 (eg : Int)))) (by kernel_rfl) ⟨c0, c1x, c2x⟩ (fun hHeld => ?_)
          refine held_take 0 (.int .u64 (n : Int)) rfl (by kernel_rfl) (by kernel_rfl) (by kernel_rfl) (fun _ _ _ h => h) (by rfl) (by intro w hSw; (try dsimp only at hSw); go_simp) hHeld ?_
          simp only [Act.put, List.setIfInBounds_toArray, List.set_cons_zero, List.set_cons_succ]
          refine held_take 1 (.bool true) rfl (by kernel_rfl) (by kernel_rfl) (by kernel_rfl) (fun _ _ _ h => h) (by rfl) (by intro w hSw; (try dsimp only at hSw); go_simp) hHeld ?_
          simp only [Act.put, List.setIfInBounds_toArray, List.set_cons_zero, List.set_cons_succ]
          refine held_take 2 (.bool true) rfl (by kernel_rfl) (by kernel_rfl) (by kernel_rfl) (fun _ _ _ h => h) (by rfl) (by intro w hSw; (try dsimp only at hSw); go_simp) hHeld ?_
          simp only [Act.put, List.setIfInBounds_toArray, List.set_cons_zero, List.set_cons_succ]
          refine held_take 3 (.int .u64 (a : Int)) rfl (by kernel_rfl) (by kernel_rfl) (by kernel_rfl) (fun _ _ _ h => h) (by rfl) (by intro w hSw; (try dsimp only at hSw); go_simp) hHeld ?_
          simp only [Act.put, List.setIfInBounds_toArray, List.set_cons_zero, List.set_cons_succ]
          refine held_take 4 (.pointer (some ⟨wr.heap.size, 0, none⟩)) rfl (by kernel_rfl) (by kernel_rfl) (by kernel_rfl) (fun _ _ _ h => h) (by rfl) (by intro w hSw; (try dsimp only at hSw); go_simp) hHeld ?_
          simp only [Act.put, List.setIfInBounds_toArray, List.set_cons_zero, List.set_cons_succ]
          refine held_take 5 (.int .u64 (ea : Int)) rfl (by kernel_rfl) (by kernel_rfl) (by kernel_rfl) (fun _ _ _ h => h) (by rfl) (by intro w hSw; (try dsimp only at hSw); go_simp) hHeld ?_
          simp only [Act.put, List.setIfInBounds_toArray, List.set_cons_zero, List.set_cons_succ]
          refine held_take 6 (.agg #[.int .u64 (ea : Int), .int .u64 (en : Int), .int .u64 (eg : Int)]) rfl (by kernel_rfl) (by kernel_rfl) (by kernel_rfl) (fun _ _ _ h => h) (by rfl) (by intro w hSw; (try dsimp only at hSw); go_simp) hHeld ?_
          simp only [Act.put, List.setIfInBounds_toArray, List.set_cons_zero, List.set_cons_succ]
          refine held_call 7 (.int .u64 (tk : Int)) rfl (by kernel_rfl) (by rfl) (by go_simp) (HT.out _ ST.out.drew) ?_
          intro w5 hst
          obtain ⟨c0, c1x, c2x⟩ := hst.c
          have ST := Lib.hid hst
          clear hst hHeld
          refine ⟨⟨c0, c1x, c2x⟩, fun hHeld => ?_⟩
          simp only [Act.put, List.setIfInBounds_toArray, List.set_cons_zero, List.set_cons_succ]
          refine held_take 8 (.int .u64 (z : Int)) rfl (by kernel_rfl) (by kernel_rfl) (by kernel_rfl) (fun _ _ _ h => h) (by rfl) (by intro w hSw; (try dsimp only at hSw); go_simp) hHeld ?_
          simp only [Act.put, List.setIfInBounds_toArray, List.set_cons_zero, List.set_cons_succ]
          refine held_take 9 (.int .u64 (zp : Int)) rfl (by kernel_rfl) (by kernel_rfl) (by kernel_rfl) (fun _ _ _ h => h) (by rfl) (by intro w hSw; (try dsimp only at hSw); go_simp) hHeld ?_
          simp only [Act.put, List.setIfInBounds_toArray, List.set_cons_zero, List.set_cons_succ]
          refine held_take 10 (.bool false) rfl (by kernel_rfl) (by kernel_rfl) (by kernel_rfl) (fun _ _ _ h => h) (by rfl) (by intro w hSw; (try dsimp only at hSw); go_simp) hHeld ?_
          simp only [Act.put, List.setIfInBounds_toArray, List.set_cons_zero, List.set_cons_succ]
          refine held_take 11 (.bool false) rfl (by kernel_rfl) (by kernel_rfl) (by kernel_rfl) (fun _ _ _ h => h) (by rfl) (by intro w hSw; (try dsimp only at hSw); go_simp) hHeld ?_
          simp only [Act.put, List.setIfInBounds_toArray, List.set_cons_zero, List.set_cons_succ]
          refine held_take 12 (.bool false) rfl (by kernel_rfl) (by kernel_rfl) (by kernel_rfl) (fun _ _ _ h => h) (by rfl) (by intro w hSw; (try dsimp only at hSw); go_simp) hHeld ?_
          simp only [Act.put, List.setIfInBounds_toArray, List.set_cons_zero, List.set_cons_succ]
          refine held_skip 13 rfl (by kernel_rfl) (by kernel_rfl) (by kernel_rfl) (fun _ _ _ h => h) (by rfl) hHeld ?_
          simp only [Act.put, List.setIfInBounds_toArray, List.set_cons_zero, List.set_cons_succ]
          refine held_skip 14 rfl (by kernel_rfl) (by kernel_rfl) (by kernel_rfl) (fun _ _ _ h => h) (by rfl) hHeld ?_
          simp only [Act.put, List.setIfInBounds_toArray, List.set_cons_zero, List.set_cons_succ]
          refine held_skip 15 rfl (by kernel_rfl) (by kernel_rfl) (by kernel_rfl) (fun _ _ _ h => h) (by rfl) hHeld ?_
          simp only [Act.put, List.setIfInBounds_toArray, List.set_cons_zero, List.set_cons_succ]
          refine held_skip 16 rfl (by kernel_rfl) (by kernel_rfl) (by kernel_rfl) (fun _ _ _ h => h) (by rfl) hHeld ?_
          simp only [Act.put, List.setIfInBounds_toArray, List.set_cons_zero, List.set_cons_succ]
          refine held_skip 17 rfl (by kernel_rfl) (by kernel_rfl) (by kernel_rfl) (fun _ _ _ h => h) (by rfl) hHeld ?_
          simp only [Act.put, List.setIfInBounds_toArray, List.set_cons_zero, List.set_cons_succ]
          refine held_skip 18 rfl (by kernel_rfl) (by kernel_rfl) (by kernel_rfl) (fun _ _ _ h => h) (by rfl) hHeld ?_
          simp only [Act.put, List.setIfInBounds_toArray, List.set_cons_zero, List.set_cons_succ]
          refine held_skip 19 rfl (by kernel_rfl) (by kernel_rfl) (by kernel_rfl) (fun _ _ _ h => h) (by rfl) hHeld ?_
          simp only [Act.put, List.setIfInBounds_toArray, List.set_cons_zero, List.set_cons_succ]
          refine held_take 20 (.bool false) rfl (by kernel_rfl) (by kernel_rfl) (by kernel_rfl) (fun _ _ _ h => h) (by rfl) (by intro w hSw; (try dsimp only at hSw); go_simp) hHeld ?_
          simp only [Act.put, List.setIfInBounds_toArray, List.set_cons_zero, List.set_cons_succ]
          refine wpAnyH_done (by kernel_rfl) ?_ _
          have B5 := Lib.hid (B.out.trans (ST.out.below.mono B.out.size))
          go_wp2_with fail
          go_roundw
          case rel => exact ⟨j + 1, by rw [HN.out]; omega, by go_num, NO2.out, B5.out⟩
          case measure => simp [intOf] <;> omega
      · obtain rfl : j = l := by omega
        have t2 : decide (j < j) = false := decide_eq_false hjn
        have t2' : decide ((j : Int) < (j : Int)) = false := decide_eq_false (by omega)
        have FIN := Lib.hid (FF.out fun e he => by
          obtain ⟨t, ht⟩ := List.getElem?_of_mem he
          exact hno t e (by have := (List.getElem?_eq_some_iff.1 ht).1; rw [HN.out] at this; exact this) ht P0.out)
        clear hno hb hjn
        go_wp2_with fail
        go_ret
        exact ⟨by rw [FIN.out]; rfl, B.out⟩
  · obtain ⟨t, ht⟩ : ∃ t, a + m - 18446744073709551616 = t := ⟨_, rfl⟩
    have w2 : IntKind.u64.wrap ((a : Int) + (m : Int)) = (t : Int) := by rw [IntKind.wrap_u64]; unfold U64B at *; omega
    have t1 : decide (t < a) = true := decide_eq_true (by unfold U64B at *; omega)
    have t1' : decide ((t : Int) < (a : Int)) = true := decide_eq_true (by unfold U64B at *; omega)
    have e : freeL M a n = false := by simp [freeL, hw]; omega
    rw [e]
    clear e h hw ht hm h0
    go_enter Try.func24, Try.ntmps24
    go_wp2
    go_ret
    exact ⟨rfl, Below.refl _ _⟩
theorem doc_Free (w : World) {mb a n : Nat} {T : Nat → Prop} {M : List En} (h : DL w mb T M) (ha : U64B a) (hn : U64B n) : Calls Try.prog 24 #[ptrV mb 0, .int .u64 (a : Int), .int .u64 (n : Int)] w fun r w' => r = .returned (.bool (freeL M a n)) ∧ Below w.heap.size w w' := by
  by_cases h0 : n = 0
  · subst h0
    have e : freeL M a 0 = true := by simp [freeL]
    rw [e]
    exact doc_Free0 w h
  · exact doc_Free1 w h ha hn (by omega)
/-! ### Bytes -/
def ByR (w : World) (M : List En) (s i : Value) (wr : World) : Prop :=
  ∃ j : Nat, j ≤ M.length ∧ i = .int .i64 (j : Int) ∧ s = .int .u64 ((sumN (M.take j) : Nat) : Int) ∧ Below w.heap.size w wr
end Go.Proofs.Ytclmdjkihijciaa
