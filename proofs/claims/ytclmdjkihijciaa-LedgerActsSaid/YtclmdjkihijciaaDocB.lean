/- The document's ledger: In, Free, Bytes. -/
import Derived.Test.YtclmdjkihijciaaDocA
namespace Go.Proofs.Ytclmdjkihijciaa
open Go.RowKit LedMath
set_option linter.unusedVariables false

def InR2 (w : World) (M : List En) (x : Nat) (i : Value) (wr : World) : Prop :=
  ∃ j : Nat, j ≤ M.length ∧ i = .int .i64 (j : Int) ∧ (∀ t e, t < j → M[t]? = some e → e.a ≤ x → ¬ x < e.z) ∧ ResB w w.heap.size wr
theorem none_told : toldV (toldE none) = .tuple #[.agg #[.int .u64 0, .int .u64 0, .int .u64 0], .int .i64 5] := rfl
set_option maxRecDepth 100000 in
set_option maxHeartbeats 4000000 in
theorem doc_In (w : World) {mb x : Nat} {T : Nat → Prop} {M : List En} (h : DL w mb T M) (hx64 : U64B x) : Calls Try.prog 22 #[ptrV mb 0, .int .u64 (x : Int)] w fun r w' => r = .returned (toldV (toldE (inL M x))) ∧ Below w.heap.size w w' := by
  obtain ⟨⟨⟨p1, p2, p3⟩, er⟩, hA0⟩ : ∃ A, toldE (inL M x) = A := ⟨_, rfl⟩
  rw [hA0]
  have HA := Lib.hid hA0
  clear hA0
  have r0 := ResB.start w
  have hA := h.below r0.below
  obtain ⟨a1, c1, a2, c2, m0, m1, s1, s2⟩ := hA.open
  have G := Lib.hid h.good
  have S1 := Lib.hid s1
  have H := Lib.hid h
  obtain ⟨n, hN⟩ : ∃ n, M.length = n := ⟨_, rfl⟩
  have HN := Lib.hid hN
  rw [hN] at m0 m1 S1
  have hnb : n ≤ 1048576 := by rw [← hN]; exact h.good.len
  have R0 := Lib.hid r0
  have I0 := Lib.hid (show InR2 w M x (.int .i64 0) (w.alloc (.cells zero3 35)) from ⟨0, Nat.zero_le _, rfl, fun t e ht => absurd ht (Nat.not_lt_zero _), r0⟩)
  clear h s1 s2 hN hA r0
  go_enter Try.func22, Try.ntmps22
  go_wp2
  go_loopw [13] (fun i wr => InR2 w M x i wr) (fun i _ => n - (intOf i).toNat)
  case atStart => exact I0.out
  case round =>
    clear I0
    obtain ⟨j, hj, rfl, hno, hr⟩ := hrel
    rw [HN.out] at hj
    have R := Lib.hid hr
    by_cases hjn : j < n
    · have t2 : decide (j < n) = true := decide_eq_true hjn
      have t2' : decide ((j : Int) < (n : Int)) = true := decide_eq_true (by omega)
      obtain ⟨e, he⟩ : ∃ e, M[j]? = some e := ⟨_, List.getElem?_eq_getElem (by rw [HN.out]; exact hjn)⟩
      have bw : Below w.heap.size (w.alloc (.cells zero3 35)) wr → True := fun _ => trivial
      have hsq := ((H.out.below hr.below).open)
      obtain ⟨a1', c1', a2', c2', m0', m1', s1', s2'⟩ := hsq
      rw [HN.out] at m0' s1'
      have em : w.cell? ⟨mb, 0, none⟩ = some (.slice a1 n c1) := by
        have := m0
        rwa [show (w.alloc (.cells zero3 35)).cell? ⟨mb, 0, none⟩ = w.cell? ⟨mb, 0, none⟩ from World.cell?_of_block (w := w) (a := ⟨mb, 0, none⟩) (Below.heap_alloc w _ _ H.out.lt)] at this
      have em2 := cell_later em (Nat.le_refl _) hr.below
      rw [em2] at m0'
      injection m0' with m0'
      injection m0' with x1 _ x3
      subst x1 x3
      obtain ⟨b, off, ea', k0, k1, k2⟩ := (s1' wr (Below.refl _ _)).blk (i := j) (x := e.b) (by rw [List.getElem?_map, he]; rfl)
      subst ea'
      have hm := List.mem_of_getElem? he
      have hz1 := G.out.lt hm
      have HE := Lib.hid he
      have NO := Lib.hid hno
      obtain ⟨ea, hea⟩ : ∃ ea, e.a = ea := ⟨_, rfl⟩
      obtain ⟨en, hen⟩ : ∃ en, e.n = en := ⟨_, rfl⟩
      obtain ⟨eg, heg⟩ : ∃ eg, e.g = eg := ⟨_, rfl⟩
      obtain ⟨z, hz⟩ : ∃ z, e.z = z := ⟨_, rfl⟩
      obtain ⟨t, ht⟩ : ∃ t : Nat, max en 1 = t := ⟨_, rfl⟩
      have ez : z = ea + t := by rw [← hz, ← hea, ← ht, ← hen]; rfl
      have EA := Lib.hid hea; have EZ := Lib.hid hz
      rw [show e.b.1 = ea from hea] at k0
      rw [show e.b.2.1 = en from hen] at k1
      rw [show e.b.2.2 = eg from heg] at k2
      rw [hz] at hz1
      have q3 : (0 : Int) ≤ (j : Int) := by omega
      have q4 : (j : Int) < (n : Int) := by omega
      have sz : (ea : Int) + (t : Int) = (z : Int) := by omega
      have s3 : IntKind.u64.wrap (z : Int) = (z : Int) := u64_in _ ⟨by omega, by omega⟩
      have bst := BoxB.start wr ea en eg
      have ST := Lib.hid bst
      obtain ⟨c0, c1x, c2x⟩ := bst.c
      have HT : Hid (∀ w', BoxB wr wr.heap.size ea en eg w' → Calls Try.prog 41 #[.agg #[.int .u64 (ea : Int), .int .u64 (en : Int), .int .u64 (eg : Int)]] w' fun r w2 => r = .returned (.int .u64 (t : Int)) ∧ BoxB wr wr.heap.size ea en eg w2) := Lib.hid fun w' k => by
        have := doc_takes w' ea en eg
        rw [ht] at this
        exact this.mono fun r w2 h => ⟨h.1, k.grew h.2⟩
      clear he hno hr hea hen heg hz ht bw em em2 s1' s2' m1' hm bst ez
      by_cases hx : ea ≤ x
      · have t3 : decide (ea ≤ x) = true := decide_eq_true hx
        have t3' : decide ((ea : Int) ≤ (x : Int)) = true := decide_eq_true (by omega)
        by_cases hxz : x < z
        · have t4 : decide (x < z) = true := decide_eq_true hxz
          go_wp2_with fail
          go_region_held3 (fun w' => w'.cell? ⟨wr.heap.size, 0, none⟩ = some (.int .u64 (ea : Int)) ∧ w'.cell? ⟨wr.heap.size, 1, none⟩ = some (.int .u64 (en : Int)) ∧ w'.cell? ⟨wr.heap.size, 2, none⟩ = some (.int .u64 (eg : Int))) (first | go_keep | exact ⟨c0, c1x, c2x⟩)
            (first
              | (go_at_call 41; (first | (with_reducible refine (HT.out _ ST.out.drew).mono ?_) | (with_reducible refine (HT.out _ ST.out).mono ?_)); rintro r w5 ⟨rfl, hst⟩; obtain ⟨c0, c1x, c2x⟩ := hst.c; have ST := Lib.hid hst; clear hst))
          have R5 := Lib.hid (R.out.grew ST.out.below)
          have e1 := inL_of G.out (x := x) (List.mem_of_getElem? HE.out) (by rw [EA.out]; exact hx) (by rw [EZ.out]; exact hxz)
          have T1 := doc_one w5 (H.out.below R5.out.below) HE.out
          rw [← e1, HA.out] at T1
          unfold toldV blkV at T1
          have T1 := Lib.hid T1
          clear hx hxz e1
          go_wp2_with fail
          refine T1.out.mono ?_
          rintro r w2 ⟨rfl, hb⟩
          have R2 := Lib.hid (R5.out.grew hb)
          obtain ⟨q, hq⟩ : ∃ q, w.heap.size = q := ⟨_, rfl⟩
          have HQ := Lib.hid hq
          rw [hq] at R2 ⊢
          obtain ⟨d0, d1, d2, f0, f1, f2⟩ := R2.out.cells
          clear hb hq R R5
          go_wp2_with fail
          obtain ⟨hB, hb⟩ := R2.out.stored (.int .u64 (p1 : Int)) (.int .u64 (p2 : Int)) (.int .u64 (p3 : Int))
          exact bodyPost_ret (results_ct rfl _ rfl rfl (loadBlk hB)) rfl ⟨rfl, hb⟩
        · have t4 : decide (x < z) = false := decide_eq_false hxz
          have NO2 := Lib.hid (show ∀ t f, t < j + 1 → M[t]? = some f → f.a ≤ x → ¬ x < f.z from fun t f ht hf h1 => by
            by_cases h : t = j
            · subst h; rw [HE.out] at hf; injection hf with hf; subst hf; rw [EZ.out]; exact hxz
            · exact NO.out t f (by omega) hf h1)
          clear hx hxz
          go_wp2_with fail
          go_region_held3 (fun w' => w'.cell? ⟨wr.heap.size, 0, none⟩ = some (.int .u64 (ea : Int)) ∧ w'.cell? ⟨wr.heap.size, 1, none⟩ = some (.int .u64 (en : Int)) ∧ w'.cell? ⟨wr.heap.size, 2, none⟩ = some (.int .u64 (eg : Int))) (first | go_keep | exact ⟨c0, c1x, c2x⟩)
            (first
              | (go_at_call 41; (first | (with_reducible refine (HT.out _ ST.out.drew).mono ?_) | (with_reducible refine (HT.out _ ST.out).mono ?_)); rintro r w5 ⟨rfl, hst⟩; obtain ⟨c0, c1x, c2x⟩ := hst.c; have ST := Lib.hid hst; clear hst))
          have R5 := Lib.hid (R.out.grew ST.out.below)
          go_wp2_with fail
          go_roundw
          case rel => exact ⟨j + 1, by rw [HN.out]; omega, by go_num, NO2.out, R5.out⟩
          case measure => simp [intOf] <;> omega
      · have t3 : decide (ea ≤ x) = false := decide_eq_false hx
        have t3' : decide ((ea : Int) ≤ (x : Int)) = false := decide_eq_false (by omega)
        have NO2 := Lib.hid (show ∀ t f, t < j + 1 → M[t]? = some f → f.a ≤ x → ¬ x < f.z from fun t f ht hf h1 => by
          by_cases h : t = j
          · subst h; rw [HE.out] at hf; injection hf with hf; subst hf; rw [EA.out] at h1; exact absurd h1 hx
          · exact NO.out t f (by omega) hf h1)
        clear hx
        go_wp2_with fail
        go_quiet (fail)
        go_wp2
        go_roundw
        case rel => exact ⟨j + 1, by rw [HN.out]; omega, by go_num, NO2.out, (R.out.grew (by first | exact ST.out.below | exact ST.out.drew.below | exact (ST.out.below).drew | exact below_drewN ST.out.below _))⟩
        case measure => simp [intOf] <;> omega
    · obtain rfl : j = n := by omega
      have t2 : decide (j < j) = false := decide_eq_false hjn
      have t2' : decide ((j : Int) < (j : Int)) = false := decide_eq_false (by omega)
      have e1 : inL M x = none := inL_none.2 fun e he => by
        obtain ⟨t, ht⟩ := List.getElem?_of_mem he
        exact hno t e (by have := (List.getElem?_eq_some_iff.1 ht).1; rw [HN.out] at this; exact this) ht
      have T1 := doc_one_none wr mb
      rw [show toldE none = ((p1, p2, p3), er) by rw [← HA.out, e1]] at T1
      unfold toldV blkV at T1
      have T1 := Lib.hid T1
      clear hno hr hjn e1
      go_wp2_with fail
      refine T1.out.mono ?_
      rintro r w2 ⟨rfl, hb⟩
      have R2 := Lib.hid (R.out.grew hb)
      obtain ⟨q, hq⟩ : ∃ q, w.heap.size = q := ⟨_, rfl⟩
      have HQ := Lib.hid hq
      rw [hq] at R2 ⊢
      obtain ⟨d0, d1, d2, f0, f1, f2⟩ := R2.out.cells
      clear hb hq R
      go_wp2_with fail
      obtain ⟨hB, hb⟩ := R2.out.stored (.int .u64 (p1 : Int)) (.int .u64 (p2 : Int)) (.int .u64 (p3 : Int))
      exact bodyPost_ret (results_ct rfl _ rfl rfl (loadBlk hB)) rfl ⟨rfl, hb⟩
/-! ### Free -/
def FrR (w : World) (M : List En) (a n : Nat) (i : Value) (wr : World) : Prop :=
  ∃ j : Nat, j ≤ M.length ∧ i = .int .i64 (j : Int) ∧ (∀ t e, t < j → M[t]? = some e → 0 < n → ¬ (e.a < a + n ∧ a < e.z)) ∧ Below w.heap.size w wr
end Go.Proofs.Ytclmdjkihijciaa
