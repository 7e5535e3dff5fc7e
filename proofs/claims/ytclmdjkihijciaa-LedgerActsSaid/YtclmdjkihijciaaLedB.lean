/- The landed ledger: how it lies; the last block up to an address; what is asked of it. -/
import Derived.Test.YtclmdjkihijciaaLedA
namespace Go.Proofs.Ytclmdjkihijciaa
open Go.RowKit LedMath
set_option linter.unusedVariables false

/-- A ledger with rows: rb is the rows' block, V s the slice of those that begin in slice s. -/
structure LedR (w : World) (lb rb : Nat) (V : Nat → Value) (S : Nat → Prop) (L : List En) : Prop where
  good : GoodL L
  ltl : lb < w.heap.size
  ltr : rb < w.heap.size
  ne : lb ≠ rb
  sl : S lb
  sr : S rb
  lc : w.cell? ⟨lb, 0, none⟩ = some (.slice (some ⟨rb, 0, none⟩) 1024 1024)
  lf : w.frozen? ⟨lb, 0, none⟩ = false
  cell : ∀ s, s < 1024 → w.cell? ⟨rb, s, none⟩ = some (V s)
  fz : ∀ s, s < 1024 → w.frozen? ⟨rb, s, none⟩ = false
  row : ∀ s, s < 1024 → Vec Elem.ents w (V s) (rowOf L s)
  own : ∀ s k, s < 1024 → In (V s) k → S k ∧ k ≠ lb ∧ k ≠ rb
  apart : ∀ s t k, s < 1024 → t < 1024 → In (V s) k → In (V t) k → s = t
/-- A ledger that has no rows yet. -/
structure LedN (w : World) (lb : Nat) (S : Nat → Prop) : Prop where
  ltl : lb < w.heap.size
  sl : S lb
  lc : w.cell? ⟨lb, 0, none⟩ = some (.slice none 0 0)
  lf : w.frozen? ⟨lb, 0, none⟩ = false
def Led (w : World) (lb : Nat) (S : Nat → Prop) (L : List En) : Prop := (LedN w lb S ∧ L = []) ∨ ∃ rb V, LedR w lb rb V S L
theorem cell_upd {S : Nat → Prop} {w w' : World} {b o : Nat} {v : Value} (h : w.cell? ⟨b, o, none⟩ = some v) (u : Upd S w w') (hs : ¬ S b) : w'.cell? ⟨b, o, none⟩ = some v :=
  (World.cell?_of_block (w := w) (a := ⟨b, o, none⟩) (u.block b (World.block_lt_of_cell? w _ h) hs)).trans h
theorem fz_upd {S : Nat → Prop} {w w' : World} {b o : Nat} (h : w.frozen? ⟨b, o, none⟩ = false) (hl : b < w.heap.size) (u : Upd S w w') (hs : ¬ S b) : w'.frozen? ⟨b, o, none⟩ = false :=
  (World.frozen?_of_block (w := w) (a := ⟨b, o, none⟩) (u.block b hl hs)).trans h
theorem LedR.upd {w w' : World} {lb rb : Nat} {V : Nat → Value} {S T : Nat → Prop} {L : List En} (h : LedR w lb rb V S L) (u : Upd T w w') (hs : ∀ k, S k → ¬ T k) : LedR w' lb rb V S L :=
  { good := h.good, ltl := Nat.lt_of_lt_of_le h.ltl u.size, ltr := Nat.lt_of_lt_of_le h.ltr u.size, ne := h.ne, sl := h.sl, sr := h.sr
    lc := cell_upd h.lc u (hs _ h.sl), lf := fz_upd h.lf h.ltl u (hs _ h.sl)
    cell := fun s hl => cell_upd (h.cell s hl) u (hs _ h.sr), fz := fun s hl => fz_upd (h.fz s hl) h.ltr u (hs _ h.sr)
    row := fun s hl => (h.row s hl).upd u fun k hk => hs k (h.own s k hl hk).1, own := h.own, apart := h.apart }
theorem LedR.below {w w' : World} {lb rb : Nat} {V : Nat → Value} {S : Nat → Prop} {L : List En} (h : LedR w lb rb V S L) (hb : Below w.heap.size w w') : LedR w' lb rb V S L := h.upd (updFalse_of hb) fun _ _ => id
theorem LedN.upd {w w' : World} {lb : Nat} {S T : Nat → Prop} (h : LedN w lb S) (u : Upd T w w') (hs : ∀ k, S k → ¬ T k) : LedN w' lb S :=
  ⟨Nat.lt_of_lt_of_le h.ltl u.size, h.sl, cell_upd h.lc u (hs _ h.sl), fz_upd h.lf h.ltl u (hs _ h.sl)⟩
theorem Led.upd {w w' : World} {lb : Nat} {S T : Nat → Prop} {L : List En} (h : Led w lb S L) (u : Upd T w w') (hs : ∀ k, S k → ¬ T k) : Led w' lb S L := by
  rcases h with ⟨h, e⟩ | ⟨rb, V, h⟩
  · exact .inl ⟨h.upd u hs, e⟩
  · exact .inr ⟨rb, V, h.upd u hs⟩
theorem Led.below {w w' : World} {lb : Nat} {S : Nat → Prop} {L : List En} (h : Led w lb S L) (hb : Below w.heap.size w w') : Led w' lb S L := h.upd (updFalse_of hb) fun _ _ => id
theorem LedR.mono {w : World} {lb rb : Nat} {V : Nat → Value} {S T : Nat → Prop} {L : List En} (h : LedR w lb rb V S L) (hs : ∀ k, k < w.heap.size → S k → T k) : LedR w lb rb V T L :=
  { h with sl := hs _ h.ltl h.sl, sr := hs _ h.ltr h.sr, own := fun s k hl hk => ⟨hs k ((h.row s hl).lt hk) (h.own s k hl hk).1, (h.own s k hl hk).2⟩ }
/-- All that it has lies in blocks that are there: S may be cut to them. -/
theorem Led.mono {w : World} {lb : Nat} {S T : Nat → Prop} {L : List En} (h : Led w lb S L) (hs : ∀ k, k < w.heap.size → S k → T k) : Led w lb T L := by
  rcases h with ⟨h, e⟩ | ⟨rb, V, h⟩
  · exact .inl ⟨⟨h.ltl, hs _ h.ltl h.sl, h.lc, h.lf⟩, e⟩
  · exact .inr ⟨rb, V, h.mono hs⟩
theorem Led.good {w : World} {lb : Nat} {S : Nat → Prop} {L : List En} (h : Led w lb S L) : GoodL L := by
  rcases h with ⟨_, rfl⟩ | ⟨rb, V, h⟩
  · exact GoodL.nil
  · exact h.good
theorem Led.lt {w : World} {lb : Nat} {S : Nat → Prop} {L : List En} (h : Led w lb S L) : lb < w.heap.size := by
  rcases h with ⟨h, _⟩ | ⟨rb, V, h⟩
  · exact h.ltl
  · exact h.ltl
theorem Led.own {w : World} {lb : Nat} {S : Nat → Prop} {L : List En} (h : Led w lb S L) : S lb := by
  rcases h with ⟨h, _⟩ | ⟨rb, V, h⟩
  · exact h.sl
  · exact h.sl

/-- Where an entry stands. -/
structure Spot (V : Nat → Value) (L : List En) (en : En) (b o : Nat) : Prop where
  at' : ∃ i off n cap, (rowOf L (en.a / 1024))[i]? = some en ∧ V (en.a / 1024) = .slice (some ⟨b, off, none⟩) n cap ∧ o = off + i * 4
theorem Spot.mem {V : Nat → Value} {L : List En} {en : En} {b o : Nat} (h : Spot V L en b o) : en ∈ L := by
  obtain ⟨i, _, _, _, hi, _⟩ := h.at'
  exact (mem_rowOf.1 (List.mem_of_getElem? hi)).1
theorem Spot.cells {w : World} {lb rb : Nat} {V : Nat → Value} {S : Nat → Prop} {L : List En} {en : En} {b o : Nat} (h : Spot V L en b o) (hl : LedR w lb rb V S L) : Cell4 w b o en := by
  have hs : en.a / 1024 < 1024 := by have := hl.good.lt' h.mem; omega
  obtain ⟨i, off, n, cap, hi, hv, rfl⟩ := h.at'
  have hr := (hl.row _ hs).seq
  rw [hv] at hr
  obtain ⟨b', off', e, hc⟩ := hr.ent hi
  injection e with e
  injection e with eb eo _
  subst eb eo
  exact hc

def LastR (w : World) (L : List En) (x : Nat) (v : Value) (wr : World) : Prop :=
  ∃ I : Int, v = .int .i64 I ∧ -1 ≤ I ∧ I < 1024 ∧ Below w.heap.size w wr ∧ ∀ f ∈ L, I < ((f.a / 1024 : Nat) : Int) → x < f.a
set_option maxRecDepth 100000 in
set_option maxHeartbeats 2000000 in
theorem last_row (w : World) {lb rb x : Nat} {V : Nat → Value} {S : Nat → Prop} {L : List En} (h : LedR w lb rb V S L) :
    Calls Try.prog 39 #[.pointer (some ⟨lb, 0, none⟩), .int .u64 (x : Int)] w fun e w' => Below w.heap.size w w' ∧
      ((e = .returned (.pointer none) ∧ ∀ f ∈ L, x < f.a) ∨ ∃ en b o, e = .returned (.pointer (some ⟨b, o, none⟩)) ∧ LastL L x en ∧ Spot V L en b o) := by
  have H := Lib.hid h
  have hc := h.lc
  obtain ⟨m, hm⟩ : ∃ m : Nat, min x 1048575 = m := ⟨_, rfl⟩
  have I0 : Hid (∀ J : Int, J = ((m / 1024 : Nat) : Int) → LastR w L x (.int .i64 J) w) := Lib.hid fun J hJ => ⟨J, rfl, by omega, by omega, Below.refl _ _, fun f hf hI => by
    have := h.good.lt' hf
    omega⟩
  have M1 : Hid ((1048575 : Int) < (x : Int) → m = 1048575) := Lib.hid fun h => by omega
  have M2 : Hid ((x : Int) ≤ 1048575 → m = x) := Lib.hid fun h => by omega
  clear h hm
  have EN := fun (w : World) => Lib.run_eql_slice_nil (P := Try.prog) w 25 52 (some ⟨rb, 0, none⟩) 1024 1024 0 0 Try.underlying25
  by_cases hx : (x : Int) ≤ 1048575
  · have EM := Lib.hid (M2.out hx)
    clear M1 M2
    go_enter Try.func39, Try.ntmps39
    go_wp2
    go_loopw [5] (fun s wr => LastR w L x s wr) (fun s _ => (intOf s + 1).toNat)
    case atStart => exact I0.out _ (by have := EM.out; omega)
    case round =>
      clear I0
      obtain ⟨I, rfl, i1, i2, hb, hi⟩ := hrel
      have B := Lib.hid hb; have HI := Lib.hid hi
      clear hb hi
      by_cases hI : 0 ≤ I
      · obtain ⟨s, rfl⟩ := Int.eq_ofNat_of_zero_le hI
        have t0 : decide ((0 : Int) ≤ (s : Int)) = true := decide_eq_true (by omega)
        have hs : s < 1024 := by omega
        have HR := Lib.hid (H.out.below B.out)
        have lc := HR.out.lc
        have cs := HR.out.cell s hs
        obtain ⟨a, n, cap, ev, hn⟩ : ∃ a n cap, V s = .slice a n cap ∧ n = (rowOf L s).length := by
          obtain ⟨a, cap, e, _⟩ := (HR.out.row s hs).slice'
          exact ⟨a, _, cap, e, rfl⟩
        have ES := Lib.hid ev
        have NS := Lib.hid hn
        rw [ev] at cs
        have hlen := H.out.good.row_len s
        rw [← hn] at hlen
        have r1 : (s : Int) < 1024 := by omega
        clear ev hn hI
        by_cases h0 : n = 0
        · subst h0
          clear hlen
          have HI' := Lib.hid (show ∀ f ∈ L, (s : Int) - 1 < ((f.a / 1024 : Nat) : Int) → x < f.a from fun f hf hlt => by
            by_cases e : f.a / 1024 = s
            · have := mem_rowOf.2 ⟨hf, e⟩
              rw [List.length_eq_zero_iff.1 NS.out.symm] at this
              exact absurd this List.not_mem_nil
            · exact HI.out f hf (by omega))
          go_wp2_with fail
          go_roundw
          case rel => exact ⟨(s : Int) - 1, rfl, by omega, by omega, B.out, HI'.out⟩
          case measure => simp [intOf] <;> omega
        · have q0 : ¬ ((n : Int) = 0) := by omega
          have q1 : (0 : Int) < (n : Int) := by omega
          obtain ⟨e0, he0⟩ : ∃ e0, (rowOf L s)[0]? = some e0 := ⟨_, List.getElem?_eq_getElem (by rw [← NS.out]; omega)⟩
          have hseq := (HR.out.row s hs).seq
          rw [ES.out] at hseq
          have SQ := Lib.hid hseq
          obtain ⟨b, off, ea, k4⟩ := hseq.ent he0
          subst ea
          obtain ⟨k0, k1, k2, k3⟩ := k4
          simp only [Nat.zero_mul, Nat.add_zero] at k0 k1 k2 k3
          have rise := (H.out.good.row s).rise
          have E0 := Lib.hid he0
          have RS := Lib.hid rise
          clear hseq he0 rise h0
          by_cases hgt : x < e0.a
          · have t1 : decide (x < e0.a) = true := decide_eq_true hgt
            have HI' := Lib.hid (show ∀ f ∈ L, (s : Int) - 1 < ((f.a / 1024 : Nat) : Int) → x < f.a from fun f hf hlt => by
              by_cases e : f.a / 1024 = s
              · obtain ⟨j, hj⟩ := List.getElem?_of_mem (mem_rowOf.2 ⟨hf, e⟩)
                by_cases j0 : j = 0
                · subst j0
                  rw [E0.out] at hj; injection hj with hj; subst hj; exact hgt
                · have h1 := List.pairwise_iff_getElem.1 RS.out 0 j (List.getElem?_eq_some_iff.1 E0.out).1 (List.getElem?_eq_some_iff.1 hj).1 (by omega)
                  rw [(List.getElem?_eq_some_iff.1 E0.out).2, (List.getElem?_eq_some_iff.1 hj).2] at h1
                  omega
              · exact HI.out f hf (by omega))
            clear hgt
            go_wp2_with fail
            go_roundw
            case rel => exact ⟨(s : Int) - 1, rfl, by omega, by omega, B.out, HI'.out⟩
            case measure => simp [intOf] <;> omega
          · have t1 : decide (x < e0.a) = false := decide_eq_false hgt
            have CF := Lib.hid (code_find wr (x := x) SQ.out RS.out (by rw [← NS.out]; omega))
            obtain ⟨c, hc⟩ : ∃ c, aheadL (rowOf L s) x = c := ⟨_, rfl⟩
            have AH := Lib.hid hc
            rw [hc] at CF
            have cle : c ≤ n := by have := ahead_le (rowOf L s) x; rw [hc, ← NS.out] at this; exact this
            have LST : Hid (∀ i en, (rowOf L s)[i]? = some en → en.a ≤ x → (∀ (j : Nat) (f : En), i < j → (rowOf L s)[j]? = some f → x < f.a) → LastL L x en ∧ en.a / 1024 = s) := Lib.hid fun i en hi hle hj => by
              have hm := mem_rowOf.1 (List.mem_of_getElem? hi)
              refine ⟨⟨hm.1, hle, fun f hf hfx => ?_⟩, hm.2⟩
              rcases Nat.lt_trichotomy (f.a / 1024) s with h1 | h1 | h1
              · have := hm.2; omega
              · obtain ⟨j, hfj⟩ := List.getElem?_of_mem (mem_rowOf.2 ⟨hf, h1⟩)
                rcases Nat.lt_trichotomy j i with h2 | h2 | h2
                · have h3 := List.pairwise_iff_getElem.1 RS.out j i (List.getElem?_eq_some_iff.1 hfj).1 (List.getElem?_eq_some_iff.1 hi).1 h2
                  rw [(List.getElem?_eq_some_iff.1 hfj).2, (List.getElem?_eq_some_iff.1 hi).2] at h3
                  omega
                · subst h2; rw [hi] at hfj; injection hfj with hfj; subst hfj; exact Nat.le_refl _
                · have := hj j f h2 hfj; omega
              · have := HI.out f hf (by omega); omega
            clear hc hgt
            by_cases hbg : beginsL (rowOf L s) x = true
            · rw [hbg] at CF
              obtain ⟨en, hen, hxe⟩ := (begins_at RS.out).1 hbg
              rw [AH.out] at hen
              have hcn : c < n := by have := (List.getElem?_eq_some_iff.1 hen).1; rw [← NS.out] at this; exact this
              have r2 : (c : Int) < (n : Int) := by omega
              have r3 : (0 : Int) ≤ (c : Int) := by omega
              obtain ⟨ll, es⟩ := LST.out c en hen (by omega) (fun j f hj hf => by
                have h1 := ahead_lt RS.out hf (x := x)
                have h2 := List.pairwise_iff_getElem.1 RS.out c j (List.getElem?_eq_some_iff.1 hen).1 (List.getElem?_eq_some_iff.1 hf).1 hj
                rw [(List.getElem?_eq_some_iff.1 hen).2, (List.getElem?_eq_some_iff.1 hf).2] at h2
                omega)
              have FIN := Lib.hid (show LastL L x en ∧ Spot V L en b (off + c * 4) from ⟨ll, ⟨c, off, n, cap, by rw [es]; exact hen, by rw [es]; exact ES.out, rfl⟩⟩)
              clear hen hxe ll es hbg
              go_wp2_with fail
              refine CF.out.mono ?_
              rintro e1 w1 ⟨rfl, hb1⟩
              have B1 := Lib.hid (B.out.trans (hb1.mono B.out.size))
              clear hb1
              go_wp2_with fail
              go_ret
              exact ⟨B1.out, .inr ⟨en, b, _, rfl, FIN.out⟩⟩
            · have hbf : beginsL (rowOf L s) x = false := by simpa using hbg
              rw [hbf] at CF
              have hc0 : c ≠ 0 := by
                rintro rfl
                have h1 := ahead_lt RS.out E0.out (x := x)
                rw [AH.out] at h1
                refine hbg ((begins_at RS.out).2 ⟨e0, by rw [AH.out]; exact E0.out, ?_⟩)
                have : ¬ e0.a < x := fun h => absurd (h1.1 h) (Nat.lt_irrefl _)
                have : ¬ x < e0.a := of_decide_eq_false t1
                omega
              obtain ⟨d, rfl⟩ : ∃ d, c = d + 1 := ⟨c - 1, by omega⟩
              obtain ⟨en, hen⟩ : ∃ en, (rowOf L s)[d]? = some en := ⟨_, List.getElem?_eq_getElem (by rw [← NS.out]; omega)⟩
              have r2 : (d : Int) < (n : Int) := by omega
              have r3 : (0 : Int) ≤ (d : Int) := by omega
              have ex1 : ((d + 1 : Nat) : Int) - 1 = (d : Int) := by omega
              have ex2 : (d : Int) + 1 - 1 = (d : Int) := by omega
              have hax := ahead_lt RS.out hen (x := x)
              rw [AH.out] at hax
              obtain ⟨ll, es⟩ := LST.out d en hen (Nat.le_of_lt (hax.2 (Nat.lt_succ_self _))) (fun j f hj hf => by
                have h1 := ahead_lt RS.out hf (x := x)
                rw [AH.out] at h1
                have h2 : ¬ f.a < x := fun h => by have := h1.1 h; omega
                refine Nat.lt_of_le_of_ne (Nat.le_of_not_lt h2) fun h3 => hbg ((begins_at RS.out).2 ?_)
                rw [AH.out]
                obtain ⟨g, hg⟩ : ∃ g, (rowOf L s)[d + 1]? = some g := ⟨_, List.getElem?_eq_getElem (by have := (List.getElem?_eq_some_iff.1 hf).1; omega)⟩
                have h4 := ahead_lt RS.out hg (x := x)
                rw [AH.out] at h4
                have h5 : ¬ g.a < x := fun h => by have := h4.1 h; omega
                by_cases hj1 : j = d + 1
                · subst hj1; exact ⟨f, hf, h3.symm⟩
                · have h6 := List.pairwise_iff_getElem.1 RS.out (d + 1) j (List.getElem?_eq_some_iff.1 hg).1 (List.getElem?_eq_some_iff.1 hf).1 (by omega)
                  rw [(List.getElem?_eq_some_iff.1 hg).2, (List.getElem?_eq_some_iff.1 hf).2] at h6
                  omega)
              have FIN := Lib.hid (show LastL L x en ∧ Spot V L en b (off + d * 4) from ⟨ll, ⟨d, off, n, cap, by rw [es]; exact hen, by rw [es]; exact ES.out, rfl⟩⟩)
              clear hen ll es hbg hbf hax hc0
              go_wp2_with fail
              refine CF.out.mono ?_
              rintro e1 w1 ⟨rfl, hb1⟩
              have B1 := Lib.hid (B.out.trans (hb1.mono B.out.size))
              clear hb1
              go_wp2_with fail
              go_ret
              exact ⟨B1.out, .inr ⟨en, b, _, rfl, FIN.out⟩⟩
      · obtain rfl : I = -1 := by omega
        have FIN := Lib.hid (show ∀ f ∈ L, x < f.a from fun f hf => HI.out f hf (by omega))
        clear hI
        go_wp2_with fail
        go_ret
        exact ⟨B.out, .inl ⟨rfl, FIN.out⟩⟩
  · have EM := Lib.hid (M1.out (by omega))
    clear M1 M2
    go_enter Try.func39, Try.ntmps39
    go_wp2
    go_loopw [5] (fun s wr => LastR w L x s wr) (fun s _ => (intOf s + 1).toNat)
    case atStart => exact I0.out _ (by have := EM.out; omega)
    case round =>
      clear I0
      obtain ⟨I, rfl, i1, i2, hb, hi⟩ := hrel
      have B := Lib.hid hb; have HI := Lib.hid hi
      clear hb hi
      by_cases hI : 0 ≤ I
      · obtain ⟨s, rfl⟩ := Int.eq_ofNat_of_zero_le hI
        have t0 : decide ((0 : Int) ≤ (s : Int)) = true := decide_eq_true (by omega)
        have hs : s < 1024 := by omega
        have HR := Lib.hid (H.out.below B.out)
        have lc := HR.out.lc
        have cs := HR.out.cell s hs
        obtain ⟨a, n, cap, ev, hn⟩ : ∃ a n cap, V s = .slice a n cap ∧ n = (rowOf L s).length := by
          obtain ⟨a, cap, e, _⟩ := (HR.out.row s hs).slice'
          exact ⟨a, _, cap, e, rfl⟩
        have ES := Lib.hid ev
        have NS := Lib.hid hn
        rw [ev] at cs
        have hlen := H.out.good.row_len s
        rw [← hn] at hlen
        have r1 : (s : Int) < 1024 := by omega
        clear ev hn hI
        by_cases h0 : n = 0
        · subst h0
          clear hlen
          have HI' := Lib.hid (show ∀ f ∈ L, (s : Int) - 1 < ((f.a / 1024 : Nat) : Int) → x < f.a from fun f hf hlt => by
            by_cases e : f.a / 1024 = s
            · have := mem_rowOf.2 ⟨hf, e⟩
              rw [List.length_eq_zero_iff.1 NS.out.symm] at this
              exact absurd this List.not_mem_nil
            · exact HI.out f hf (by omega))
          go_wp2_with fail
          go_roundw
          case rel => exact ⟨(s : Int) - 1, rfl, by omega, by omega, B.out, HI'.out⟩
          case measure => simp [intOf] <;> omega
        · have q0 : ¬ ((n : Int) = 0) := by omega
          have q1 : (0 : Int) < (n : Int) := by omega
          obtain ⟨e0, he0⟩ : ∃ e0, (rowOf L s)[0]? = some e0 := ⟨_, List.getElem?_eq_getElem (by rw [← NS.out]; omega)⟩
          have hseq := (HR.out.row s hs).seq
          rw [ES.out] at hseq
          have SQ := Lib.hid hseq
          obtain ⟨b, off, ea, k4⟩ := hseq.ent he0
          subst ea
          obtain ⟨k0, k1, k2, k3⟩ := k4
          simp only [Nat.zero_mul, Nat.add_zero] at k0 k1 k2 k3
          have rise := (H.out.good.row s).rise
          have E0 := Lib.hid he0
          have RS := Lib.hid rise
          clear hseq he0 rise h0
          by_cases hgt : x < e0.a
          · have t1 : decide (x < e0.a) = true := decide_eq_true hgt
            have HI' := Lib.hid (show ∀ f ∈ L, (s : Int) - 1 < ((f.a / 1024 : Nat) : Int) → x < f.a from fun f hf hlt => by
              by_cases e : f.a / 1024 = s
              · obtain ⟨j, hj⟩ := List.getElem?_of_mem (mem_rowOf.2 ⟨hf, e⟩)
                by_cases j0 : j = 0
                · subst j0
                  rw [E0.out] at hj; injection hj with hj; subst hj; exact hgt
                · have h1 := List.pairwise_iff_getElem.1 RS.out 0 j (List.getElem?_eq_some_iff.1 E0.out).1 (List.getElem?_eq_some_iff.1 hj).1 (by omega)
                  rw [(List.getElem?_eq_some_iff.1 E0.out).2, (List.getElem?_eq_some_iff.1 hj).2] at h1
                  omega
              · exact HI.out f hf (by omega))
            clear hgt
            go_wp2_with fail
            go_roundw
            case rel => exact ⟨(s : Int) - 1, rfl, by omega, by omega, B.out, HI'.out⟩
            case measure => simp [intOf] <;> omega
          · have t1 : decide (x < e0.a) = false := decide_eq_false hgt
            have CF := Lib.hid (code_find wr (x := x) SQ.out RS.out (by rw [← NS.out]; omega))
            obtain ⟨c, hc⟩ : ∃ c, aheadL (rowOf L s) x = c := ⟨_, rfl⟩
            have AH := Lib.hid hc
            rw [hc] at CF
            have cle : c ≤ n := by have := ahead_le (rowOf L s) x; rw [hc, ← NS.out] at this; exact this
            have LST : Hid (∀ i en, (rowOf L s)[i]? = some en → en.a ≤ x → (∀ (j : Nat) (f : En), i < j → (rowOf L s)[j]? = some f → x < f.a) → LastL L x en ∧ en.a / 1024 = s) := Lib.hid fun i en hi hle hj => by
              have hm := mem_rowOf.1 (List.mem_of_getElem? hi)
              refine ⟨⟨hm.1, hle, fun f hf hfx => ?_⟩, hm.2⟩
              rcases Nat.lt_trichotomy (f.a / 1024) s with h1 | h1 | h1
              · have := hm.2; omega
              · obtain ⟨j, hfj⟩ := List.getElem?_of_mem (mem_rowOf.2 ⟨hf, h1⟩)
                rcases Nat.lt_trichotomy j i with h2 | h2 | h2
                · have h3 := List.pairwise_iff_getElem.1 RS.out j i (List.getElem?_eq_some_iff.1 hfj).1 (List.getElem?_eq_some_iff.1 hi).1 h2
                  rw [(List.getElem?_eq_some_iff.1 hfj).2, (List.getElem?_eq_some_iff.1 hi).2] at h3
                  omega
                · subst h2; rw [hi] at hfj; injection hfj with hfj; subst hfj; exact Nat.le_refl _
                · have := hj j f h2 hfj; omega
              · have := HI.out f hf (by omega); omega
            clear hc hgt
            by_cases hbg : beginsL (rowOf L s) x = true
            · rw [hbg] at CF
              obtain ⟨en, hen, hxe⟩ := (begins_at RS.out).1 hbg
              rw [AH.out] at hen
              have hcn : c < n := by have := (List.getElem?_eq_some_iff.1 hen).1; rw [← NS.out] at this; exact this
              have r2 : (c : Int) < (n : Int) := by omega
              have r3 : (0 : Int) ≤ (c : Int) := by omega
              obtain ⟨ll, es⟩ := LST.out c en hen (by omega) (fun j f hj hf => by
                have h1 := ahead_lt RS.out hf (x := x)
                have h2 := List.pairwise_iff_getElem.1 RS.out c j (List.getElem?_eq_some_iff.1 hen).1 (List.getElem?_eq_some_iff.1 hf).1 hj
                rw [(List.getElem?_eq_some_iff.1 hen).2, (List.getElem?_eq_some_iff.1 hf).2] at h2
                omega)
              have FIN := Lib.hid (show LastL L x en ∧ Spot V L en b (off + c * 4) from ⟨ll, ⟨c, off, n, cap, by rw [es]; exact hen, by rw [es]; exact ES.out, rfl⟩⟩)
              clear hen hxe ll es hbg
              go_wp2_with fail
              refine CF.out.mono ?_
              rintro e1 w1 ⟨rfl, hb1⟩
              have B1 := Lib.hid (B.out.trans (hb1.mono B.out.size))
              clear hb1
              go_wp2_with fail
              go_ret
              exact ⟨B1.out, .inr ⟨en, b, _, rfl, FIN.out⟩⟩
            · have hbf : beginsL (rowOf L s) x = false := by simpa using hbg
              rw [hbf] at CF
              have hc0 : c ≠ 0 := by
                rintro rfl
                have h1 := ahead_lt RS.out E0.out (x := x)
                rw [AH.out] at h1
                refine hbg ((begins_at RS.out).2 ⟨e0, by rw [AH.out]; exact E0.out, ?_⟩)
                have : ¬ e0.a < x := fun h => absurd (h1.1 h) (Nat.lt_irrefl _)
                have : ¬ x < e0.a := of_decide_eq_false t1
                omega
              obtain ⟨d, rfl⟩ : ∃ d, c = d + 1 := ⟨c - 1, by omega⟩
              obtain ⟨en, hen⟩ : ∃ en, (rowOf L s)[d]? = some en := ⟨_, List.getElem?_eq_getElem (by rw [← NS.out]; omega)⟩
              have r2 : (d : Int) < (n : Int) := by omega
              have r3 : (0 : Int) ≤ (d : Int) := by omega
              have ex1 : ((d + 1 : Nat) : Int) - 1 = (d : Int) := by omega
              have ex2 : (d : Int) + 1 - 1 = (d : Int) := by omega
              have hax := ahead_lt RS.out hen (x := x)
              rw [AH.out] at hax
              obtain ⟨ll, es⟩ := LST.out d en hen (Nat.le_of_lt (hax.2 (Nat.lt_succ_self _))) (fun j f hj hf => by
                have h1 := ahead_lt RS.out hf (x := x)
                rw [AH.out] at h1
                have h2 : ¬ f.a < x := fun h => by have := h1.1 h; omega
                refine Nat.lt_of_le_of_ne (Nat.le_of_not_lt h2) fun h3 => hbg ((begins_at RS.out).2 ?_)
                rw [AH.out]
                obtain ⟨g, hg⟩ : ∃ g, (rowOf L s)[d + 1]? = some g := ⟨_, List.getElem?_eq_getElem (by have := (List.getElem?_eq_some_iff.1 hf).1; omega)⟩
                have h4 := ahead_lt RS.out hg (x := x)
                rw [AH.out] at h4
                have h5 : ¬ g.a < x := fun h => by have := h4.1 h; omega
                by_cases hj1 : j = d + 1
                · subst hj1; exact ⟨f, hf, h3.symm⟩
                · have h6 := List.pairwise_iff_getElem.1 RS.out (d + 1) j (List.getElem?_eq_some_iff.1 hg).1 (List.getElem?_eq_some_iff.1 hf).1 (by omega)
                  rw [(List.getElem?_eq_some_iff.1 hg).2, (List.getElem?_eq_some_iff.1 hf).2] at h6
                  omega)
              have FIN := Lib.hid (show LastL L x en ∧ Spot V L en b (off + d * 4) from ⟨ll, ⟨d, off, n, cap, by rw [es]; exact hen, by rw [es]; exact ES.out, rfl⟩⟩)
              clear hen ll es hbg hbf hax hc0
              go_wp2_with fail
              refine CF.out.mono ?_
              rintro e1 w1 ⟨rfl, hb1⟩
              have B1 := Lib.hid (B.out.trans (hb1.mono B.out.size))
              clear hb1
              go_wp2_with fail
              go_ret
              exact ⟨B1.out, .inr ⟨en, b, _, rfl, FIN.out⟩⟩
      · obtain rfl : I = -1 := by omega
        have FIN := Lib.hid (show ∀ f ∈ L, x < f.a from fun f hf => HI.out f hf (by omega))
        clear hI
        go_wp2_with fail
        go_ret
        exact ⟨B.out, .inl ⟨rfl, FIN.out⟩⟩
end Go.Proofs.Ytclmdjkihijciaa
