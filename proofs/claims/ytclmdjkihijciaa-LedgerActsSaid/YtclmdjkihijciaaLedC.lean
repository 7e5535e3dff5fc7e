/- The landed ledger: what is asked of it: end, told, at, Free, At, In. -/
import Derived.Test.YtclmdjkihijciaaLedB
import Derived.Deep.RegionLaw
import Derived.RegionTactic
namespace Go.Proofs.Ytclmdjkihijciaa
open Go.RowKit LedMath
set_option linter.unusedVariables false

abbrev ptrV (b o : Nat) : Value := .pointer (some ⟨b, o, none⟩)
/-- An entry's cells, since w. -/
structure CellB (w : World) (b o : Nat) (e : En) (w' : World) : Prop where
  c : Cell4 w' b o e
  below : Below w.heap.size w w'
theorem CellB.drew {w w' : World} {b o : Nat} {e : En} (h : CellB w b o e w') : CellB w b o e w'.drew := ⟨⟨h.c.c0, h.c.c1, h.c.c2, h.c.c3⟩, h.below.drew⟩
theorem taken_held {w w' : World} {b o : Nat} {e : En} (h : CellB w b o e w') : Calls Try.prog 27 #[.agg #[.int .u64 (e.a : Int), .int .u64 (e.n : Int), .int .u64 (e.g : Int)]] w' fun r w2 => r = .returned (.int .u64 ((e.t : Nat) : Int)) ∧ CellB w b o e w2 :=
  (code_taken w' e.a e.n e.g).mono fun r w2 k => ⟨k.1, h.c.below k.2, below_then h.below h.below.size k.2⟩
theorem code_end (w : World) {b o : Nat} {e : En} (h : Cell4 w b o e) (hz : e.z ≤ 1048576) : Calls Try.prog 40 #[ptrV b o] w fun r w' => r = .returned (.int .u64 (e.z : Int)) ∧ Below w.heap.size w w' := by
  have ST : Hid (CellB w b o e w) := Lib.hid ⟨h, Below.refl _ _⟩
  obtain ⟨c0, c1, c2, c3⟩ := h
  obtain ⟨t, ht⟩ : ∃ t : Nat, e.t = t := ⟨_, rfl⟩
  have H : Hid (∀ w', CellB w b o e w' → Calls Try.prog 27 #[.agg #[.int .u64 (e.a : Int), .int .u64 (e.n : Int), .int .u64 (e.g : Int)]] w' fun r w2 => r = .returned (.int .u64 (t : Int)) ∧ CellB w b o e w2) := Lib.hid fun w' k => by
    have := taken_held k; rw [ht] at this; exact this
  obtain ⟨z, ez⟩ : ∃ z : Nat, e.z = z := ⟨_, rfl⟩
  have hz' : (e.a : Int) + (t : Int) = (z : Int) := by have : e.z = e.a + e.t := rfl; omega
  have w1 : IntKind.u64.wrap (z : Int) = (z : Int) := u64_in _ ⟨by omega, by omega⟩
  rw [ez]
  clear ht ez hz
  go_enter Try.func40, Try.ntmps40
  go_wp2
  go_region_held3 (fun w' => w'.cell? ⟨b, o, none⟩ = some (.int .u64 (e.a : Int)) ∧ w'.cell? ⟨b, o + 1, none⟩ = some (.int .u64 (e.n : Int)) ∧ w'.cell? ⟨b, o + 2, none⟩ = some (.int .u64 (e.g : Int))) (first | go_keep | exact ⟨c0, c1, c2⟩)
    (first
      | (go_at_call 27; (first | (with_reducible refine (H.out _ ST.out.drew).mono ?_) | (with_reducible refine (H.out _ ST.out).mono ?_)); rintro r w5 ⟨rfl, hst⟩; obtain ⟨c0, c1, c2, c3⟩ := hst.c; have ST := Lib.hid hst; clear hst))
  go_wp2
  go_ret
  exact ⟨rfl, ST.out.below⟩
def toldV (x : (Nat × Nat × Nat) × Nat) : Value := .tuple #[blkV x.1.1 x.1.2.1 x.1.2.2, .int .i64 (x.2 : Int)]
theorem code_told_nil (w : World) : Calls Try.prog 32 #[.pointer none] w fun r w' => r = .returned (toldV (toldE none)) ∧ Below w.heap.size w w' := by
  go_enter Try.func32, Try.ntmps32
  go_wp2
  refine bodyPost_ret (v := toldV (toldE none)) ?_ rfl ⟨rfl, (Below.refl _ w).alloc (Nat.le_refl _) _⟩
  simp [results, Try.results32, go_sem, toldV, toldE, blkV]
theorem code_told (w : World) {b o : Nat} {e : En} (h : Cell4 w b o e) : Calls Try.prog 32 #[ptrV b o] w fun r w' => r = .returned (toldV (toldE (some e))) ∧ Below w.heap.size w w' := by
  obtain ⟨c0, c1, c2, c3⟩ := h
  obtain ⟨f, hf⟩ : ∃ f, e.h = f := ⟨_, rfl⟩
  have HF := Lib.hid hf
  rw [hf] at c3
  have below : ∀ ob, Below w.heap.size w (w.alloc ob) := fun ob => (Below.refl _ w).alloc (Nat.le_refl _) ob
  have k0 : ∀ ob, (w.alloc ob).cell? ⟨b, o, none⟩ = _ := fun ob => cell_later c0 (Nat.le_refl _) (below ob)
  have k1 : ∀ ob, (w.alloc ob).cell? ⟨b, o + 1, none⟩ = _ := fun ob => cell_later c1 (Nat.le_refl _) (below ob)
  have k2 : ∀ ob, (w.alloc ob).cell? ⟨b, o + 2, none⟩ = _ := fun ob => cell_later c2 (Nat.le_refl _) (below ob)
  have k3 : ∀ ob, (w.alloc ob).cell? ⟨b, o + 3, none⟩ = _ := fun ob => cell_later c3 (Nat.le_refl _) (below ob)
  have BL := Lib.hid below
  clear c0 c1 c2 c3 below hf
  cases f
  · go_enter Try.func32, Try.ntmps32
    go_wp2
    refine bodyPost_ret (v := toldV (toldE (some e))) ?_ rfl ⟨rfl, BL.out _⟩
    simp [results, Try.results32, go_sem, toldV, toldE, blkV, HF.out, En.b]
  · go_enter Try.func32, Try.ntmps32
    go_wp2
    refine bodyPost_ret (v := toldV (toldE (some e))) ?_ rfl ⟨rfl, BL.out _⟩
    simp [results, Try.results32, go_sem, toldV, toldE, blkV, HF.out]

/-- at: the block that begins at an address. -/
theorem at_row (w : World) {lb rb x : Nat} {V : Nat → Value} {S : Nat → Prop} {L : List En} (h : LedR w lb rb V S L) :
    Calls Try.prog 33 #[ptrV lb 0, .int .u64 (x : Int)] w fun r w' => Below w.heap.size w w' ∧
      ((r = .returned (.pointer none) ∧ atL L x = none) ∨ ∃ e b o, r = .returned (ptrV b o) ∧ atL L x = some e ∧ Spot V L e b o) := by
  have HL := Lib.hid (last_row w (x := x) h)
  have H := Lib.hid h
  clear h
  go_enter Try.func33, Try.ntmps33
  go_wp2_with fail
  refine HL.out.mono ?_
  rintro r w1 ⟨hb, hr⟩
  have B := Lib.hid hb
  clear hb
  rcases hr with ⟨rfl, hn⟩ | ⟨e, b, o, rfl, hl, hs⟩
  · have FIN := Lib.hid (none_at hn)
    clear hn
    go_wp2_with fail
    go_ret
    exact ⟨B.out, .inl ⟨rfl, FIN.out⟩⟩
  · obtain ⟨c0, c1, c2, c3⟩ := hs.cells (H.out.below B.out)
    have HS := Lib.hid hs
    have A := Lib.hid (hl.at H.out.good)
    clear hs hl
    by_cases hx : e.a = x
    · have t1 : decide ((e.a : Int) = (x : Int)) = true := decide_eq_true (by omega)
      have t2 : ((e.a : Int) == (x : Int)) = true := t1
      have FIN := Lib.hid (show atL L x = some e by rw [A.out, if_pos hx])
      subst hx
      clear t1 t2
      go_wp2_with fail
      go_ret
      exact ⟨B.out, .inr ⟨e, b, o, rfl, FIN.out, HS.out⟩⟩
    · have t1 : decide ((e.a : Int) = (x : Int)) = false := decide_eq_false (by omega)
      have t2 : ((e.a : Int) == (x : Int)) = false := t1
      have q1 : ¬ (e.a : Int) = (x : Int) := by omega
      have FIN := Lib.hid (show atL L x = none by rw [A.out, if_neg hx])
      go_wp2_with fail
      go_ret
      exact ⟨B.out, .inl ⟨rfl, FIN.out⟩⟩
theorem last_nil (w : World) {lb x : Nat} {S : Nat → Prop} (h : LedN w lb S) : Calls Try.prog 39 #[ptrV lb 0, .int .u64 (x : Int)] w fun r w' => r = .returned (.pointer none) ∧ w' = w := by
  have hc := h.lc
  have EN := fun (w : World) => Lib.run_eql_slice_nil (P := Try.prog) w 25 52 none 0 0 0 0 Try.underlying25
  go_enter Try.func39, Try.ntmps39
  go_wp2
  go_ret
  exact ⟨rfl, rfl⟩
theorem at_nil (w : World) {lb x : Nat} {S : Nat → Prop} (h : LedN w lb S) : Calls Try.prog 33 #[ptrV lb 0, .int .u64 (x : Int)] w fun r w' => r = .returned (.pointer none) ∧ w' = w := by
  have H := Lib.hid (last_nil w (x := x) h)
  clear h
  go_enter Try.func33, Try.ntmps33
  go_wp2_with fail
  refine H.out.mono ?_
  rintro r w1 ⟨rfl, rfl⟩
  go_wp2_with fail
  go_ret
  exact ⟨rfl, rfl⟩

abbrev zero3 : Array Value := #[.int .u64 0, .int .u64 0, .int .u64 0]
/-- The result's block, made at the call's begin: behind other calls it is as it was. -/
structure ResB (w : World) (q : Nat) (w' : World) : Prop where
  b : Blk w' q 35 zero3
  below : Below w.heap.size w w'
  q : q = w.heap.size
theorem ResB.start (w : World) : ResB w w.heap.size (w.alloc (.cells zero3 35)) := ⟨Blk.new w _ _, (Below.refl _ w).alloc (Nat.le_refl _) _, rfl⟩
theorem ResB.grew {w w' w2 : World} {q : Nat} (h : ResB w q w') (hb : Below w'.heap.size w' w2) : ResB w q w2 := ⟨h.b.grew hb, below_then h.below h.below.size hb, h.q⟩
theorem ResB.cells {w w' : World} {q : Nat} (h : ResB w q w') : w'.cell? ⟨q, 0, none⟩ = some (.int .u64 0) ∧ w'.cell? ⟨q, 1, none⟩ = some (.int .u64 0) ∧ w'.cell? ⟨q, 2, none⟩ = some (.int .u64 0) ∧ w'.frozen? ⟨q, 0, none⟩ = false ∧ w'.frozen? ⟨q, 1, none⟩ = false ∧ w'.frozen? ⟨q, 2, none⟩ = false :=
  ⟨h.b.cell 0, h.b.cell 1, h.b.cell 2, h.b.frozen 0, h.b.frozen 1, h.b.frozen 2⟩
theorem ResB.stored {w w' : World} {q : Nat} (h : ResB w q w') (u0 u1 u2 : Value) : Blk (((w'.setCell ⟨q, 0, none⟩ u0).setCell ⟨q, 1, none⟩ u1).setCell ⟨q, 2, none⟩ u2) q 35 #[u0, u1, u2] ∧ Below w.heap.size w (((w'.setCell ⟨q, 0, none⟩ u0).setCell ⟨q, 1, none⟩ u1).setCell ⟨q, 2, none⟩ u2) :=
  ⟨((h.b.put 0 u0).put 1 u1).put 2 u2, ((((Upd.ofBelow h.below).setCell (p := ⟨q, 0, none⟩) (.inl (Nat.le_of_eq h.q.symm)) u0).setCell (p := ⟨q, 1, none⟩) (.inl (Nat.le_of_eq h.q.symm)) u1).setCell (p := ⟨q, 2, none⟩) (.inl (Nat.le_of_eq h.q.symm)) u2).below (fun _ h => h) (Nat.le_refl _)⟩
theorem loadBlk {w : World} {g : Nat} {a n al : Value} (h : Blk w g 35 #[a, n, al]) : (loadVar 35 ⟨g, 0, none⟩).run Try.prog w = .ok (.agg #[a, n, al]) w := by
  have hi : (Try.prog.info? 35).map (fun j => j.size) = some 3 := by kernel_rfl
  exact run_loadVar_row w g 35 35 _ (0, 0) _ h Try.underlying35 rfl hi
theorem results_ct {fn : Func} {a b : Tmp} {t : TypeId} (h : fn.results = #[.cell a t, .tmp b]) (tmps : Array Value) {P : Program} {w : World} {pa : Addr} {va vb : Value} (ea : tmps.getD a undef = .pointer (some pa)) (eb : tmps.getD b undef = vb) (ha : (loadVar t pa).run P w = .ok va w) :
    (results fn tmps).run P w = .ok (.tuple #[va, vb]) w := by
  rw [Array.getD_eq_getD_getElem?] at ea eb
  simp [results, h, ea, eb, asAddr, ha]
/-- At: the block that begins at an address, if it isn't held. -/
theorem At_any (w : World) {lb x : Nat} {S : Nat → Prop} {L : List En} (h : Led w lb S L) : Calls Try.prog 13 #[ptrV lb 0, .int .u64 (x : Int)] w fun r w' => r = .returned (toldV (toldE (atL L x))) ∧ Below w.heap.size w w' := by
  have R0 := Lib.hid (ResB.start w)
  have TN := Lib.hid code_told_nil
  obtain ⟨A, hA⟩ : ∃ A, toldE (atL L x) = A := ⟨_, rfl⟩
  obtain ⟨⟨a, n, g⟩, er⟩ := A
  rw [hA]
  have HA := Lib.hid hA
  rcases h with ⟨h, rfl⟩ | ⟨rb, V, h⟩
  · have H1 := Lib.hid (fun ob => at_nil (w.alloc ob) (x := x) (h.upd (updFalse_of ((Below.refl _ w).alloc (Nat.le_refl _) ob)) fun _ _ => id))
    have T1 : Hid (∀ w, Calls Try.prog 32 #[.pointer none] w fun r w' => r = .returned (.tuple #[.agg #[.int .u64 (a : Int), .int .u64 (n : Int), .int .u64 (g : Int)], .int .i64 (er : Int)]) ∧ Below w.heap.size w w') := Lib.hid fun w => by
      have := TN.out w
      rw [show toldE none = ((a, n, g), er) from hA] at this
      exact this
    clear h hA
    go_enter Try.func13, Try.ntmps13
    go_wp2_with fail
    refine (H1.out _).mono ?_
    rintro r w1 ⟨rfl, rfl⟩
    go_wp2_with fail
    refine (T1.out _).mono ?_
    rintro r w2 ⟨rfl, hb⟩
    have R2 := Lib.hid (R0.out.grew hb)
    obtain ⟨q, hq⟩ : ∃ q, w.heap.size = q := ⟨_, rfl⟩
    have HQ := Lib.hid hq
    rw [hq] at R2 ⊢
    obtain ⟨c0, c1, c2, f0, f1, f2⟩ := R2.out.cells
    clear hb hq R0
    go_wp2_with fail
    obtain ⟨hB, hb⟩ := R2.out.stored (.int .u64 (a : Int)) (.int .u64 (n : Int)) (.int .u64 (g : Int))
    exact bodyPost_ret (results_ct rfl _ rfl rfl (loadBlk hB)) rfl ⟨rfl, hb⟩
  · have H1 := Lib.hid (fun ob => at_row (w.alloc ob) (x := x) (h.below ((Below.refl _ w).alloc (Nat.le_refl _) ob)))
    have H := Lib.hid h
    clear h hA
    go_enter Try.func13, Try.ntmps13
    go_wp2_with fail
    refine (H1.out _).mono ?_
    rintro r w1 ⟨hb1, hr⟩
    have R1 := Lib.hid (R0.out.grew hb1)
    clear hb1 R0
    have key : Hid (∃ v, r = .returned v ∧ Calls Try.prog 32 #[v] w1 fun r w' => r = .returned (.tuple #[.agg #[.int .u64 (a : Int), .int .u64 (n : Int), .int .u64 (g : Int)], .int .i64 (er : Int)]) ∧ Below w1.heap.size w1 w') := Lib.hid (by
      rcases hr with ⟨rfl, hn⟩ | ⟨e, b, o, rfl, he, hs⟩
      · refine ⟨_, rfl, ?_⟩
        have := TN.out w1
        rw [show toldE none = ((a, n, g), er) by rw [← hn]; exact HA.out] at this
        exact this
      · refine ⟨_, rfl, ?_⟩
        have := code_told w1 (hs.cells (H.out.below R1.out.below))
        rw [show toldE (some e) = ((a, n, g), er) by rw [← he]; exact HA.out] at this
        exact this)
    clear hr
    obtain ⟨v, rfl, hk⟩ := key.out
    have T1 := Lib.hid hk
    clear hk key
    go_wp2_with fail
    refine T1.out.mono ?_
    rintro r w2 ⟨rfl, hb⟩
    have R2 := Lib.hid (R1.out.grew hb)
    obtain ⟨q, hq⟩ : ∃ q, w.heap.size = q := ⟨_, rfl⟩
    have HQ := Lib.hid hq
    rw [hq] at R2 ⊢
    obtain ⟨c0, c1, c2, f0, f1, f2⟩ := R2.out.cells
    clear hb hq R1
    go_wp2_with fail
    obtain ⟨hB, hb⟩ := R2.out.stored (.int .u64 (a : Int)) (.int .u64 (n : Int)) (.int .u64 (g : Int))
    exact bodyPost_ret (results_ct rfl _ rfl rfl (loadBlk hB)) rfl ⟨rfl, hb⟩
end Go.Proofs.Ytclmdjkihijciaa
