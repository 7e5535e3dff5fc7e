/- The document's ledger: how it lies; at, one, At. -/
import Derived.Test.YtclmdjkihijciaaLedMath4
import Derived.Test.YtclmdjkihijciaaSame15
namespace Go.Proofs.Ytclmdjkihijciaa
open Go.RowKit LedMath
set_option linter.unusedVariables false

/-- The document's ledger at block mb: its blocks, and which are held. -/
structure DL (w : World) (mb : Nat) (T : Nat → Prop) (M : List En) : Prop where
  good : GoodL M
  tm : T mb
  p : ∃ v1 v2, Blk w mb 32 #[v1, v2] ∧ Vec Elem.blks w v1 (M.map En.b) ∧ Vec Elem.bools w v2 (M.map En.h) ∧ (∀ k, In v1 k → T k ∧ k ≠ mb) ∧ ∀ k, In v2 k → T k ∧ k ≠ mb ∧ ¬ In v1 k
theorem DL.upd {w w' : World} {mb : Nat} {T S : Nat → Prop} {M : List En} (h : DL w mb T M) (u : Upd S w w') (hs : ∀ k, T k → ¬ S k) : DL w' mb T M := by
  obtain ⟨v1, v2, hb, h1, h2, i1, i2⟩ := h.p
  exact ⟨h.good, h.tm, v1, v2, hb.upd u (hs _ h.tm), h1.upd u fun k hk => hs k (i1 k hk).1, h2.upd u fun k hk => hs k (i2 k hk).1, i1, i2⟩
theorem DL.below {w w' : World} {mb : Nat} {T : Nat → Prop} {M : List En} (h : DL w mb T M) (hb : Below w.heap.size w w') : DL w' mb T M := h.upd (updFalse_of hb) fun _ _ => id
theorem DL.mono {w : World} {mb : Nat} {T S : Nat → Prop} {M : List En} (h : DL w mb T M) (hs : ∀ k, k < w.heap.size → T k → S k) : DL w mb S M := by
  obtain ⟨v1, v2, hb, h1, h2, i1, i2⟩ := h.p
  exact ⟨h.good, hs _ hb.lt h.tm, v1, v2, hb, h1, h2, fun k hk => ⟨hs k (h1.lt hk) (i1 k hk).1, (i1 k hk).2⟩, fun k hk => ⟨hs k (h2.lt hk) (i2 k hk).1, (i2 k hk).2⟩⟩
theorem DL.lt {w : World} {mb : Nat} {T : Nat → Prop} {M : List En} (h : DL w mb T M) : mb < w.heap.size := by
  obtain ⟨v1, v2, hb, _⟩ := h.p; exact hb.lt
/-- What a walk wants of it. -/
theorem DL.open {w : World} {mb : Nat} {T : Nat → Prop} {M : List En} (h : DL w mb T M) : ∃ a1 c1 a2 c2, w.cell? ⟨mb, 0, none⟩ = some (.slice a1 M.length c1) ∧ w.cell? ⟨mb, 1, none⟩ = some (.slice a2 M.length c2) ∧ (∀ w', Below w.heap.size w w' → Seq Elem.blks w' (.slice a1 M.length c1) (M.map En.b)) ∧ ∀ w', Below w.heap.size w w' → Seq Elem.bools w' (.slice a2 M.length c2) (M.map En.h) := by
  obtain ⟨v1, v2, hb, h1, h2, i1, i2⟩ := h.p
  obtain ⟨a1, c1, e1, _⟩ := h1.slice'
  obtain ⟨a2, c2, e2, _⟩ := h2.slice'
  rw [List.length_map] at e1 e2
  subst e1 e2
  exact ⟨a1, c1, a2, c2, hb.cell 0, hb.cell 1, fun w' hb => h1.seq.below (Nat.le_refl _) hb, fun w' hb => h2.seq.below (Nat.le_refl _) hb⟩
theorem Seq.flag {w : World} {a : Option Addr} {n cap : Nat} {l : List Bool} (h : Seq Elem.bools w (.slice a n cap) l) {i : Nat} {x : Bool} (hx : l[i]? = some x) : ∃ b off, a = some ⟨b, off, none⟩ ∧ w.cell? ⟨b, off + i, none⟩ = some (.bool x) := by
  obtain ⟨b, off, ea, hc⟩ := h.elem hx
  have := hc 0 _ rfl
  rw [show off + i * Elem.bools.size + 0 = off + i by show off + i * 1 + 0 = off + i; omega] at this
  exact ⟨b, off, ea, this⟩
theorem doc_takes (w : World) (a n g : Nat) : Calls Try.prog 41 #[.agg #[.int .u64 (a : Int), .int .u64 (n : Int), .int .u64 (g : Int)]] w fun e w' => e = .returned (.int .u64 ((max n 1 : Nat) : Int)) ∧ Below w.heap.size w w' := by
  by_cases hn : (1 : Int) ≤ (n : Int)
  · obtain ⟨m, hm, hmn⟩ : ∃ m : Nat, max n 1 = m ∧ n = m := ⟨_, rfl, by omega⟩
    rw [hm]
    subst hmn
    clear hm
    go_enter Try.func41, Try.ntmps41
    go_wp2
    go_ret
    exact ⟨rfl, (Below.refl _ w).alloc (Nat.le_refl _) _⟩
  · obtain ⟨m, hm, hmn⟩ : ∃ m : Nat, max n 1 = m ∧ m = 1 := ⟨_, rfl, by omega⟩
    rw [hm]
    subst hmn
    clear hm
    go_enter Try.func41, Try.ntmps41
    go_wp2
    go_ret
    exact ⟨rfl, (Below.refl _ w).alloc (Nat.le_refl _) _⟩
def IxR (w : World) (M : List En) (x : Nat) (i : Value) (wr : World) : Prop :=
  ∃ j : Nat, j ≤ M.length ∧ i = .int .i64 (j : Int) ∧ (∀ t e, t < j → M[t]? = some e → e.a ≠ x) ∧ Below w.heap.size w wr
set_option maxHeartbeats 1000000 in
/-- Where the one that begins at an address stands. -/
theorem doc_at (w : World) {mb x : Nat} {T : Nat → Prop} {M : List En} (h : DL w mb T M) : Calls Try.prog 36 #[ptrV mb 0, .int .u64 (x : Int)] w fun r w' => Below w.heap.size w w' ∧
    ((r = .returned (.int .i64 (-1)) ∧ atL M x = none) ∨ ∃ (i : Nat) (e : En), r = .returned (.int .i64 (i : Int)) ∧ M[i]? = some e ∧ atL M x = some e) := by
  obtain ⟨a1, c1, a2, c2, m0, m1, s1, s2⟩ := h.open
  have G := Lib.hid h.good
  have S1 := Lib.hid s1
  obtain ⟨n, hN⟩ : ∃ n, M.length = n := ⟨_, rfl⟩
  have HN := Lib.hid hN
  rw [hN] at m0 m1 S1
  have hnb : n ≤ 1048576 := by rw [← hN]; exact h.good.len
  have I0 := Lib.hid (show IxR w M x (.int .i64 0) w from ⟨0, Nat.zero_le _, rfl, fun t e ht => absurd ht (Nat.not_lt_zero _), Below.refl _ _⟩)
  clear h s1 s2 hN
  go_enter Try.func36, Try.ntmps36
  go_wp2
  go_loopw [12] (fun i wr => IxR w M x i wr) (fun i _ => n - (intOf i).toNat)
  case atStart => exact I0.out
  case round =>
    clear I0
    obtain ⟨j, hj, rfl, hno, hb⟩ := hrel
    rw [HN.out] at hj
    by_cases hjn : j < n
    · have t2 : decide (j < n) = true := decide_eq_true hjn
      have t2' : decide ((j : Int) < (n : Int)) = true := decide_eq_true (by omega)
      obtain ⟨e, he⟩ : ∃ e, M[j]? = some e := ⟨_, List.getElem?_eq_getElem (by rw [HN.out]; exact hjn)⟩
      obtain ⟨b, off, ea', k0, k1, k2⟩ := (S1.out wr hb).blk (i := j) (x := e.b) (by rw [List.getElem?_map, he]; rfl)
      subst ea'
      have HE := Lib.hid he
      have NO := Lib.hid hno
      have B := Lib.hid hb
      obtain ⟨ea, hea⟩ : ∃ ea, e.a = ea := ⟨_, rfl⟩
      have EA := Lib.hid hea
      rw [show e.b.1 = ea from hea] at k0
      have q3 : (0 : Int) ≤ (j : Int) := by omega
      have q4 : (j : Int) < (n : Int) := by omega
      clear he hno hb hea
      by_cases hx : ea = x
      · have FIN := Lib.hid (atL_of G.out (x := x) (List.mem_of_getElem? HE.out) (by rw [EA.out]; exact hx))
        subst hx
        go_wp2_with fail
        go_ret
        exact ⟨B.out.alloc B.out.size _, .inr ⟨j, e, rfl, HE.out, FIN.out⟩⟩
      · have q5 : ¬ ((ea : Int) = (x : Int)) := by omega
        have NO2 := Lib.hid (show ∀ t f, t < j + 1 → M[t]? = some f → f.a ≠ x from fun t f ht hf => by
          by_cases h : t = j
          · subst h; rw [HE.out] at hf; injection hf with hf; subst hf; rw [EA.out]; exact hx
          · exact NO.out t f (by omega) hf)
        clear hx
        go_wp2_with fail
        go_roundw
        case rel => exact ⟨j + 1, by rw [HN.out]; omega, by go_num, NO2.out, B.out.alloc B.out.size _⟩
        case measure => simp [intOf] <;> omega
    · obtain rfl : j = n := by omega
      have t2 : decide (j < j) = false := decide_eq_false hjn
      have t2' : decide ((j : Int) < (j : Int)) = false := decide_eq_false (by omega)
      have FIN := Lib.hid (show atL M x = none from atL_none.2 fun e he => by
        obtain ⟨t, ht⟩ := List.getElem?_of_mem he
        exact hno t e (by have := (List.getElem?_eq_some_iff.1 ht).1; rw [HN.out] at this; exact this) ht)
      have B := Lib.hid hb
      clear hno hb hjn
      go_wp2_with fail
      go_ret
      exact ⟨B.out, .inl ⟨rfl, FIN.out⟩⟩
theorem doc_one_none (w : World) (mb : Nat) : Calls Try.prog 38 #[ptrV mb 0, .int .i64 (-1)] w fun r w' => r = .returned (toldV (toldE none)) ∧ Below w.heap.size w w' := by
  go_enter Try.func38, Try.ntmps38
  go_wp2
  refine bodyPost_ret (v := toldV (toldE none)) ?_ rfl ⟨rfl, (Below.refl _ w).alloc (Nat.le_refl _) _⟩
  simp [results, Try.results38, go_sem, toldV, toldE, blkV]
theorem doc_one (w : World) {mb i : Nat} {T : Nat → Prop} {M : List En} {e : En} (h : DL w mb T M) (he : M[i]? = some e) : Calls Try.prog 38 #[ptrV mb 0, .int .i64 (i : Int)] w fun r w' => r = .returned (toldV (toldE (some e))) ∧ Below w.heap.size w w' := by
  have h' : ∀ ob, DL (w.alloc ob) mb T M := fun ob => h.below ((Below.refl _ w).alloc (Nat.le_refl _) ob)
  obtain ⟨a1, c1, a2, c2, m0, m1, s1, s2⟩ := h.open
  have hi := (List.getElem?_eq_some_iff.1 he).1
  obtain ⟨n, hN⟩ : ∃ n, M.length = n := ⟨_, rfl⟩
  rw [hN] at m0 m1 s1 s2 hi
  have hnb : n ≤ 1048576 := by rw [← hN]; exact h.good.len
  have below : ∀ ob, Below w.heap.size w (w.alloc ob) := fun ob => (Below.refl _ w).alloc (Nat.le_refl _) ob
  have u0 : ∀ ob, (w.alloc ob).cell? ⟨mb, 0, none⟩ = _ := fun ob => cell_later m0 (Nat.le_refl _) (below ob)
  have u1 : ∀ ob, (w.alloc ob).cell? ⟨mb, 1, none⟩ = _ := fun ob => cell_later m1 (Nat.le_refl _) (below ob)
  obtain ⟨b1, o1, e1, k0, k1, k2⟩ := (s1 w (Below.refl _ _)).blk (i := i) (x := e.b) (by rw [List.getElem?_map, he]; rfl)
  obtain ⟨b2, o2, e2, f0⟩ := (s2 w (Below.refl _ _)).flag (i := i) (x := e.h) (by rw [List.getElem?_map, he]; rfl)
  subst e1 e2
  have p0 : ∀ ob, (w.alloc ob).cell? ⟨b1, o1 + i * 3, none⟩ = _ := fun ob => cell_later k0 (Nat.le_refl _) (below ob)
  have p1 : ∀ ob, (w.alloc ob).cell? ⟨b1, o1 + i * 3 + 1, none⟩ = _ := fun ob => cell_later k1 (Nat.le_refl _) (below ob)
  have p2 : ∀ ob, (w.alloc ob).cell? ⟨b1, o1 + i * 3 + 2, none⟩ = _ := fun ob => cell_later k2 (Nat.le_refl _) (below ob)
  have pf : ∀ ob, (w.alloc ob).cell? ⟨b2, o2 + i, none⟩ = _ := fun ob => cell_later f0 (Nat.le_refl _) (below ob)
  have BL := Lib.hid below
  have q1 : (0 : Int) ≤ (i : Int) := by omega
  have q2 : (i : Int) < (n : Int) := by omega
  have q3 : decide ((i : Int) < 0) = false := decide_eq_false (by omega)
  obtain ⟨f, hf⟩ : ∃ f, e.h = f := ⟨_, rfl⟩
  have HF := Lib.hid hf
  rw [hf] at pf
  clear h h' m0 m1 s1 s2 k0 k1 k2 f0 below hN hf he
  cases f
  · go_enter Try.func38, Try.ntmps38
    go_wp2
    refine bodyPost_ret (v := toldV (toldE (some e))) ?_ rfl ⟨rfl, BL.out _⟩
    simp [results, Try.results38, go_sem, toldV, toldE, blkV, HF.out, En.b]
  · go_enter Try.func38, Try.ntmps38
    go_wp2
    refine bodyPost_ret (v := toldV (toldE (some e))) ?_ rfl ⟨rfl, BL.out _⟩
    simp [results, Try.results38, go_sem, toldV, toldE, blkV, HF.out]
set_option maxHeartbeats 1000000 in
theorem doc_At (w : World) {mb x : Nat} {T : Nat → Prop} {M : List En} (h : DL w mb T M) : Calls Try.prog 20 #[ptrV mb 0, .int .u64 (x : Int)] w fun r w' => r = .returned (toldV (toldE (atL M x))) ∧ Below w.heap.size w w' := by
  have R0 := Lib.hid (ResB.start w)
  obtain ⟨A, hA⟩ : ∃ A, toldE (atL M x) = A := ⟨_, rfl⟩
  obtain ⟨⟨a, n, g⟩, er⟩ := A
  rw [hA]
  have HA := Lib.hid hA
  have BL := Lib.hid (fun ob => (Below.refl w.heap.size w).alloc (Nat.le_refl _) ob)
  have H1 := Lib.hid (fun ob => doc_at (w.alloc ob) (x := x) (h.below (BL.out ob)))
  have H := Lib.hid h
  clear h hA
  go_enter Try.func20, Try.ntmps20
  go_wp2_with fail
  refine (H1.out _).mono ?_
  rintro r w1 ⟨hb1, hr⟩
  have R1 := Lib.hid (R0.out.grew hb1)
  clear hb1 R0
  have key : Hid (∃ i : Int, r = .returned (.int .i64 i) ∧ Calls Try.prog 38 #[ptrV mb 0, .int .i64 i] w1 fun r w' => r = .returned (.tuple #[.agg #[.int .u64 (a : Int), .int .u64 (n : Int), .int .u64 (g : Int)], .int .i64 (er : Int)]) ∧ Below w1.heap.size w1 w') := Lib.hid (by
    rcases hr with ⟨rfl, hn⟩ | ⟨i, e, rfl, hi, he⟩
    · refine ⟨_, rfl, ?_⟩
      have := doc_one_none w1 mb
      rw [show toldE none = ((a, n, g), er) by rw [← hn]; exact HA.out] at this
      exact this
    · refine ⟨_, rfl, ?_⟩
      have := doc_one w1 (H.out.below R1.out.below) hi
      rw [show toldE (some e) = ((a, n, g), er) by rw [← he]; exact HA.out] at this
      exact this)
  clear hr
  obtain ⟨v, rfl, hk⟩ := key.out
  have T1 := Lib.hid hk
  clear hk key
  go_wp2_with fail
  refine T1.out.mono ?_
  rintro r w2 ⟨rfl, hb⟩
  have R2 := Lib.hid (R1.out.grew hb)
  obtain ⟨q, hq⟩ : ∃ q, w.heap.size = q := ⟨_, rfl⟩
  have HQ := Lib.hid hq
  rw [hq] at R2 ⊢
  obtain ⟨c0, c1, c2, f0, f1, f2⟩ := R2.out.cells
  clear hb hq R1
  go_wp2_with fail
  obtain ⟨hB, hb⟩ := R2.out.stored (.int .u64 (a : Int)) (.int .u64 (n : Int)) (.int .u64 (g : Int))
  exact bodyPost_ret (results_ct rfl _ rfl rfl (loadBlk hB)) rfl ⟨rfl, hb⟩
end Go.Proofs.Ytclmdjkihijciaa
