/- The document's own stack and moves (allotmentref13): Take, Put, Step: contracts. -/
import Derived.Test.YtgaecgijmnkdgaaRefK13
namespace Go.Proofs.Ytgaecgijmnkdgaa
open Go.RowKit StackMath
set_option linter.unusedVariables false
set_option maxRecDepth 100000

theorem tag_step {t : Nat} (h : t ≤ 1000000000) : IntKind.u64.wrap ((t : Int) + 1) = ((t + 1 : Nat) : Int) := by
  rw [IntWalk.u64_in _ ⟨by omega, by omega⟩]; omega
theorem rtake_any (w : World) {q : Nat} {v : Value} {S : SS} (h : RS w q v S) (g : GoodS S) (hm : ManyB S) {t : Nat} (hat : t = S.t → S.L ≠ []) :
    Calls Try.prog 30 #[.pointer (some ⟨q, 0, none⟩), .int .u64 (t : Int)] w fun e w' => e = .returned (.bool (decide (t = S.t))) ∧ (∃ v', RS w' q v' (takeS S t) ∧ ∀ k, In v' k → In v k) ∧ QW q w w' := by
  have hm' : S.n ≤ 999999999 := hm
  have c0 := h.c0; have c1 := h.c1; have c2 := h.c2
  have f0 := h.frozen 0; have f1 := h.frozen 1; have f2 := h.frozen 2
  obtain ⟨a, c, rfl, h1, h2⟩ := h.vec.slice'
  rw [show (toI S.L).length = S.L.length from toI_len _] at h c0 h1 ⊢
  obtain ⟨l, hl⟩ : ∃ z, S.L.length = z := ⟨_, rfl⟩
  have ha := h.ask ((S.n : Int) + 1) (S.n + 1) (by omega)
  have hu := (Upd.refl (fun k => k = q) w).setCell (p := ⟨q, 2, none⟩) (.inl rfl) (.int .i64 ((S.n : Int) + 1))
  by_cases ht : t = S.t
  · have hne := hat ht
    have hl1 : 1 ≤ l := by rw [← hl]; exact List.length_pos_iff.2 hne
    rw [hl] at h1
    obtain ⟨sv, hsv, hsin, _, hsvec⟩ := cut_from (E := Elem.ints) (P := Try.prog) 47 Try.underlying47 sizeI13 a l c 1 hl1 h1
    have hsv1 : ∀ w, (Instr.slice 47 (.slice a l c) (some (.int .i64 1)) none none).run Try.prog w = .ok sv w := hsv
    have hv2 := hsvec _ _ (by have := ha.vec; rw [hl] at this; exact this)
    have htl : (toI S.L).drop 1 = toI S.L.tail := by unfold toI; rw [← List.map_drop, List.drop_one]
    rw [show (toI (⟨S.L, S.B, S.t, S.n + 1⟩ : SS).L) = toI S.L from rfl, htl] at hv2
    obtain ⟨a2, cc2, e9, _, _⟩ := hv2.slice'
    obtain ⟨l2, hl2⟩ : ∃ z, (toI S.L.tail).length = z := ⟨_, rfl⟩
    rw [hl2] at e9
    subst e9
    clear hl2
    have hin2 : ∀ k, In (.slice a2 l2 cc2) k → k ≠ q := fun k hk => h.ne k (by rw [hl]; exact hsin k hk)
    have hr := ha.row hv2 hin2
    have ht2 := hr.tag ((S.t : Int) + 1) (S.t + 1) (by omega)
    have hu2 := QW.set (QW.set hu 0 (.slice a2 l2 cc2)) 1 (.int .u64 ((S.t : Int) + 1))
    have eT : takeS S t = ⟨S.L.tail, S.B, S.t + 1, S.n + 1⟩ := by unfold takeS; rw [if_pos ht]
    rw [decide_eq_true ht, eT]
    have R := Lib.hid (And.intro ht2 (And.intro hsin hu2))
    obtain ⟨n, hn⟩ : ∃ z, S.n = z := ⟨_, rfl⟩
    obtain ⟨t', ht'⟩ : ∃ z, S.t = z := ⟨_, rfl⟩
    rw [hn] at hm' c2 R
    rw [ht'] at c1 R ht
    rw [hl] at c0 ⊢
    rw [ht', hn]
    have htb : t' ≤ 1000000000 := by rw [← ht']; have := g.tn; omega
    subst ht
    have tt : ((t : Int) != (t : Int)) = false := by simp
    clear h g hm hat ha hu hne hsv hsin hsvec hv2 htl hin2 hr ht2 hu2 eT hn ht' hl
    go_enter Try.func30, Try.ntmps30
    go_wp2
    go_ret
    exact ⟨rfl, ⟨_, R.out.1, R.out.2.1⟩, R.out.2.2⟩
  · have eT : takeS S t = ⟨S.L, S.B, S.t, S.n + 1⟩ := by unfold takeS; rw [if_neg ht]
    rw [decide_eq_false ht, eT]
    have R := Lib.hid (And.intro ha hu)
    obtain ⟨n, hn⟩ : ∃ z, S.n = z := ⟨_, rfl⟩
    obtain ⟨t', ht'⟩ : ∃ z, S.t = z := ⟨_, rfl⟩
    rw [hn] at hm' c2 R
    rw [ht'] at c1 R ht
    rw [ht', hn]
    have tt : ((t : Int) != (t' : Int)) = true := by rw [bne_iff_ne]; omega
    clear h g hm hat ha hu eT hn ht' hl ht
    go_enter Try.func30, Try.ntmps30
    go_wp2
    go_ret
    exact ⟨rfl, ⟨_, R.out.1, fun _ h => h⟩, R.out.2⟩
theorem rput_any (w : World) {q : Nat} {v : Value} {S : SS} (h : RS w q v S) (g : GoodS S) (hm : ManyB S) {p : Nat} (hp : p < 64) {t : Nat} (i : Int) :
    Calls Try.prog 31 #[.pointer (some ⟨q, 0, none⟩), .int .i64 (p : Int), .int .u64 (t : Int)] w fun e w' =>
      (p ∈ S.L → e = .returned (.tuple #[.bool false, .int .i64 6]) ∧ w' = w) ∧
      (p ∉ S.L → e = .returned (.tuple #[.bool (decide (t = S.t)), .int .i64 0]) ∧ (∃ v', RS w' q v' (putS S p i t) ∧ ∀ k, In v' k → In v k ∨ w.heap.size ≤ k) ∧ QW q w w') := by
  have hm' : S.n ≤ 999999999 := hm
  have q1 : decide ((p : Int) < 0) = false := decide_eq_false (by omega)
  have q2 : decide ((63 : Int) < (p : Int)) = false := decide_eq_false (by omega)
  have HS := rhas_any w h p
  by_cases hin : p ∈ S.L
  · rw [decide_eq_true hin] at HS
    have HS := Lib.hid HS; have HIN := Lib.hid hin
    clear h g hm hin
    go_enter Try.func31, Try.ntmps31
    go_wp2_with fail
    refine HS.out.mono ?_; rintro e w1 ⟨rfl, k⟩; obtain rfl := k.symm; clear k
    go_wp2
    go_ret2
    exact ⟨fun _ => ⟨rfl, rfl⟩, fun h => absurd HIN.out h⟩
  · rw [decide_eq_false hin] at HS
    have HS := Lib.hid HS; have HIN := Lib.hid hin
    have c0 := h.c0; have c1 := h.c1; have c2 := h.c2
    have f0 := h.frozen 0; have f1 := h.frozen 1; have f2 := h.frozen 2
    have ha := h.ask ((S.n : Int) + 1) (S.n + 1) (by omega)
    have hu := (Upd.refl (fun k => k = q) w).setCell (p := ⟨q, 2, none⟩) (.inl rfl) (.int .i64 ((S.n : Int) + 1))
    by_cases ht : t = S.t
    · have eT : putS S p i t = ⟨p :: S.L, putB S.B p (wordI i), S.t + 1, S.n + 1⟩ := by unfold putS; rw [if_pos ht]
      rw [decide_eq_true ht, eT]
      obtain ⟨a, c, rfl, h1, h2⟩ := h.vec.slice'
      have hs64 := g.len
      rw [show (toI S.L).length = S.L.length from toI_len _] at h c0 h1 ha ⊢
      obtain ⟨l, hl⟩ : ∃ z, S.L.length = z := ⟨_, rfl⟩
      rw [hl] at h c0 h1 hs64 ha ⊢
      obtain ⟨i0, hi, hz0, hz1, hz2⟩ := info_parts infoInt13
      obtain ⟨W, hW⟩ : ∃ z, w.setCell ⟨q, 2, none⟩ (.int .i64 ((S.n : Int) + 1)) = z := ⟨_, rfl⟩
      rw [hW] at ha hu
      have N1 := Lib.hid (Vec.one13 W 3 (p : Int))
      have VS := Lib.hid (ha.vec.seq.alloc (.cells #[.int .i64 (p : Int)] 3))
      have HA := Lib.hid ha; have HU := Lib.hid hu; have HLT := Lib.hid ha.lt
      have w0 : W.cell? ⟨q, 0, none⟩ = some (.slice a l c) := ha.c0
      have w0' : (W.alloc (.cells #[.int .i64 (p : Int)] 3)).cell? ⟨q, 0, none⟩ = some (.slice a l c) := (ha.alloc _).c0
      have w1c : W.cell? ⟨q, 1, none⟩ = some (.int .u64 (S.t : Nat)) := ha.c1
      have HL := Lib.hid (show (toI S.L).length = l by rw [toI_len]; exact hl)
      obtain ⟨n, hn⟩ : ∃ z, S.n = z := ⟨_, rfl⟩
      obtain ⟨t', ht'⟩ : ∃ z, S.t = z := ⟨_, rfl⟩
      have HN := Lib.hid (And.intro hn ht')
      rw [hn] at hm' c2 hW
      rw [ht'] at c1 w1c ht
      have htb : t' ≤ 1000000000 := by rw [← ht']; have := g.tn; omega
      subst ht
      have tt : ((t : Int) != (t : Int)) = false := by simp
      clear h g hm hin ha hu eT hn ht' hl
      go_enter Try.func31, Try.ntmps31
      go_wp2_with fail
      refine HS.out.mono ?_; rintro e w1 ⟨rfl, k⟩; obtain rfl := k.symm; clear k
      go_wp2_with (at_builtin; refine wpList_append_vec (E := Elem.ints) rfl (.tmp 32) (.tmp 36) 47 rfl 3 i0 (.int .i64 0) 8 Try.underlying47 hi hz0 hz1 hz2 rfl (.slice (some ⟨W.heap.size, 0, none⟩) 1 1) (.slice a l c) [(p : Int)] (toI S.L) rfl rfl N1.out VS.out ?_ ?_ ?_; (rw [HL.out]; simp only [maxLen, List.length_cons, List.length_nil]; omega); (rw [HL.out]; simp only [List.length_cons, List.length_nil]; omega); intro v' w9 hv1 hu1 hin1; have V1 := Lib.hid hv1; have U1 := Lib.hid hu1; have I1 := Lib.hid hin1; have h9 := (HA.out.alloc (.cells #[.int .i64 (p : Int)] 3)).upd hu1 (fun k => by have e := in_blk k; have := HLT.out; omega) (fun k hk e => by have e2 := in_blk e; have := HA.out.vec.lt hk; omega); have H9 := Lib.hid h9; have x0 := h9.c0; have x1 := h9.c1; have g0 := h9.frozen 0; have g1 := h9.frozen 1; obtain ⟨a9, c9, e9, _, _⟩ := hv1.slice'; obtain ⟨l9, hl9⟩ : ∃ z, ([(p : Int)] ++ toI S.L).length = z := ⟨_, rfl⟩; rw [hl9] at e9; subst e9; clear hl9 hv1 hu1 hin1 h9)
      go_ret2
      have hv9 : Vec Elem.ints w9 (.slice a9 l9 c9) (toI (p :: S.L)) := V1.out
      have hin9 : ∀ k, In (.slice a9 l9 c9) k → W.heap.size ≤ k := fun k hk => by
        rcases I1.out k hk with e | e
        · have := in_blk e; omega
        · rw [World.size_alloc] at e; omega
      have hsz : W.heap.size = w.heap.size := by rw [← hW]; exact World.size_setCell _ _ _
      have h10 := H9.out.row hv9 (fun k hk => by have := hin9 k hk; have := HLT.out; omega)
      have h11 := h10.tag (IntKind.u64.wrap ((t : Int) + 1)) (t + 1) (tag_step htb)
      refine ⟨fun h => absurd h HIN.out, fun _ => ⟨rfl, ⟨_, ?_, fun k hk => .inr (by have := hin9 k hk; omega)⟩, ?_⟩⟩
      · have e2 := HN.out.1; have e3 := HN.out.2
        subst e3
        exact h11
      · refine QW.set (QW.set (Upd.trans HU.out ?_) 0 _) 1 _
        exact ((Upd.refl (fun k => k = q) W).alloc _).step U1.out (fun k hk => .inr (by have e := in_blk hk; omega))
    · have eT : putS S p i t = ⟨S.L, putB S.B p (wordI i), S.t, S.n + 1⟩ := by unfold putS; rw [if_neg ht]
      rw [decide_eq_false ht, eT]
      have R := Lib.hid (And.intro (show RS _ q v ⟨S.L, putB S.B p (wordI i), S.t, S.n + 1⟩ from ha) hu)
      obtain ⟨n, hn⟩ : ∃ z, S.n = z := ⟨_, rfl⟩
      obtain ⟨t', ht'⟩ : ∃ z, S.t = z := ⟨_, rfl⟩
      rw [hn] at hm' c2 R
      rw [ht'] at c1 R ht
      rw [ht', hn]
      have tt : ((t : Int) != (t' : Int)) = true := by rw [bne_iff_ne]; omega
      clear h g hm hin ha hu eT hn ht' ht
      go_enter Try.func31, Try.ntmps31
      go_wp2_with fail
      refine HS.out.mono ?_; rintro e w1 ⟨rfl, k⟩; obtain rfl := k.symm; clear k
      go_wp2
      go_ret2
      exact ⟨fun h => absurd h HIN.out, fun _ => ⟨rfl, ⟨_, R.out.1, fun _ h => .inl h⟩, R.out.2⟩⟩
/-! ### Steps -/
theorem RM.c0 {w : World} {b q : Nat} {M : MV} (h : RM w b q M) : w.cell? ⟨b, 0, none⟩ = some (.pointer (some ⟨q, 0, none⟩)) := Blk.cell h 0
theorem RM.c1 {w : World} {b q : Nat} {M : MV} (h : RM w b q M) : w.cell? ⟨b, 1, none⟩ = some (.int .i64 (placeE M)) := Blk.cell h 1
theorem RM.c2 {w : World} {b q : Nat} {M : MV} (h : RM w b q M) : w.cell? ⟨b, 2, none⟩ = some (.int .i64 M.top) := Blk.cell h 2
theorem RM.c3 {w : World} {b q : Nat} {M : MV} (h : RM w b q M) : w.cell? ⟨b, 3, none⟩ = some (.int .u64 (M.tag : Int)) := Blk.cell h 3
theorem RM.c4 {w : World} {b q : Nat} {M : MV} (h : RM w b q M) : w.cell? ⟨b, 4, none⟩ = some (.bool (!M.push)) := Blk.cell h 4
theorem RM.c5 {w : World} {b q : Nat} {M : MV} (h : RM w b q M) : w.cell? ⟨b, 5, none⟩ = some (.bool M.looked) := Blk.cell h 5
theorem RM.c6 {w : World} {b q : Nat} {M : MV} (h : RM w b q M) : w.cell? ⟨b, 6, none⟩ = some (.bool M.over) := Blk.cell h 6
theorem rs_set {w : World} {q b : Nat} {v : Value} {S : SS} (h : RS w q v S) (hb : b ≠ q) (hv : ∀ k, In v k → k ≠ b) (i : Nat) (u : Value) : RS (w.setCell ⟨b, i, none⟩ u) q v S := h.upd ((Upd.refl (fun k => k = b) w).setCell (.inl rfl) u) (fun e => hb e.symm) hv
/-- A move of the document's whose cells are not those of a step's end. -/
abbrev RB (w : World) (b : Nat) (cs : Array Value) : Prop := Blk w b 41 cs
abbrev RW (q b : Nat) (w w' : World) : Prop := Upd (fun k => k = q ∨ k = b) w w'
theorem RW.set {q b : Nat} {w w' : World} (h : RW q b w w') (i : Nat) (v : Value) : RW q b w (w'.setCell ⟨b, i, none⟩ v) := h.setCell (.inl (.inr rfl)) v
theorem QW.rw {q b : Nat} {w w' : World} (h : QW q w w') : RW q b w w' := h.mono fun _ h => .inl h
/-- What a step of the document's leaves. -/
def Stept (w w' : World) (q b : Nat) (v : Value) (S : SS) (M : MV) : Prop := (∃ v', RS w' q v' S ∧ ∀ k, In v' k → In v k ∨ w.heap.size ≤ k) ∧ RM w' b q M ∧ RW q b w w'
theorem rstep_over (w : World) {q b : Nat} {v : Value} {S : SS} {M : MV} (h : RS w q v S) (k : RM w b q M) (ho : M.over = true) :
    Calls Try.prog 14 #[.pointer (some ⟨b, 0, none⟩)] w fun e w' => e = .returned (.bool false) ∧ Stept w w' q b v S M := by
  have c6 := k.c6
  rw [ho] at c6
  have R := Lib.hid (And.intro h k)
  clear h k ho
  go_enter Try.func14, Try.ntmps14
  go_wp2
  go_ret
  exact ⟨rfl, ⟨v, R.out.1, fun _ h => .inl h⟩, R.out.2, Upd.refl _ _⟩
theorem rstep_look (w : World) {q b : Nat} {v : Value} {S : SS} {M : MV} (h : RS w q v S) (k : RM w b q M) (hm : ManyB S) (ho : M.over = false) (hl : M.looked = false) (hb : b ≠ q) (hv : ∀ k, In v k → k ≠ b) (g : GoodS S) :
    Calls Try.prog 14 #[.pointer (some ⟨b, 0, none⟩)] w fun e w' => e = .returned (.bool true) ∧ Stept w w' q b v (lookE S M).1 (lookE S M).2 := by
  have L := Lib.hid (rlook_any w h hm)
  have hti := topI_le g.lt
  have hpl : placeE (lookE S M).2 = placeE M := by
    unfold placeE lookE
    rw [ho]
    by_cases hp : M.push = true
    · simp [hp]
    · have hp' : M.push = false := by simpa using hp
      by_cases ht : topI S.L = -1 <;> simp [hp', ht]
  obtain ⟨z, hz⟩ : ∃ z, topI S.L = z := ⟨_, rfl⟩
  obtain ⟨t, ht⟩ : ∃ z, S.t = z := ⟨_, rfl⟩
  have hz1 : -1 ≤ z := by rw [← hz]; exact hti.1
  obtain ⟨y, hy⟩ : ∃ y, decide (z = -1) = y := ⟨_, rfl⟩
  have tz : decide (z < 0) = y := by rw [← hy]; exact decide_eq_decide.2 ⟨fun h => by omega, fun h => by omega⟩
  have eC : rmC q (lookE S M).2 = #[.pointer (some ⟨q, 0, none⟩), .int .i64 (placeE M), .int .i64 z, .int .u64 (t : Int), .bool (!M.push), .bool true, .bool (!M.push && y)] := by
    unfold rmC; rw [hpl]; unfold lookE; rw [hz, ht, hy]
  rw [hz, ht] at L
  have hne : ∀ k, k = q → ¬ k = b := fun k e e2 => hb (by rw [← e2, e])
  have c0 := k.c0; have c5 := k.c5; have c6 := k.c6
  rw [ho] at c6
  rw [hl] at c5
  have K := Lib.hid k
  have EC := Lib.hid eC; have NE := Lib.hid (And.intro hb hv); have HT := Lib.hid ht
  obtain ⟨bp, hbp⟩ : ∃ z, M.push = z := ⟨_, rfl⟩
  have HBP := Lib.hid hbp
  clear h k hm ho hl hb hv g hti hpl hz ht hy eC hne hbp
  go_enter Try.func14, Try.ntmps14
  go_wp2_with fail
  refine L.out.mono ?_; rintro e w1 ⟨rfl, h1, u1⟩
  have k1 := K.out.upd u1 (fun e => NE.out.1 e)
  have d2 := k1.c2; have d3 := k1.c3; have d4 := k1.c4; have d5 := k1.c5; have d6 := k1.c6
  rw [HBP.out] at d4
  have f2 := Blk.frozen k1 2; have f3 := Blk.frozen k1 3; have f5 := Blk.frozen k1 5; have f6 := Blk.frozen k1 6
  have K1 := Lib.hid k1; have H1 := Lib.hid h1; have U1 := Lib.hid u1
  clear h1 u1 k1 c0 c5 c6
  cases bp with
  | true =>
    go_wp2
    go_ret
    have e2 := HT.out
    subst e2
    refine ⟨rfl, ⟨v, rs_set (rs_set (rs_set (rs_set H1.out NE.out.1 NE.out.2 2 _) NE.out.1 NE.out.2 3 _) NE.out.1 NE.out.2 5 _) NE.out.1 NE.out.2 6 _, fun _ h => .inl h⟩, ?_, RW.set (RW.set (RW.set (RW.set U1.out.rw 2 _) 3 _) 5 _) 6 _⟩
    have k6 := (((Blk.put K1.out 2 (.int .i64 z)).put 3 (.int .u64 (S.t : Int))).put 5 (.bool true)).put 6 (.bool false)
    unfold RM
    rw [EC.out]
    rw [HBP.out]
    have e4 : ((((rmC q M).setIfInBounds 2 (.int .i64 z)).setIfInBounds 3 (.int .u64 (S.t : Int))).setIfInBounds 5 (.bool true)).setIfInBounds 6 (.bool false) = #[.pointer (some ⟨q, 0, none⟩), .int .i64 (placeE M), .int .i64 z, .int .u64 (S.t : Int), .bool (!M.push), .bool true, .bool false] := rfl
    rw [e4, HBP.out] at k6
    exact k6
  | false =>
    go_wp2
    go_ret
    have e2 := HT.out
    subst e2
    refine ⟨rfl, ⟨v, rs_set (rs_set (rs_set (rs_set H1.out NE.out.1 NE.out.2 2 _) NE.out.1 NE.out.2 3 _) NE.out.1 NE.out.2 5 _) NE.out.1 NE.out.2 6 _, fun _ h => .inl h⟩, ?_, RW.set (RW.set (RW.set (RW.set U1.out.rw 2 _) 3 _) 5 _) 6 _⟩
    have k6 := (((Blk.put K1.out 2 (.int .i64 z)).put 3 (.int .u64 (S.t : Int))).put 5 (.bool true)).put 6 (.bool y)
    unfold RM
    rw [EC.out]
    rw [HBP.out]
    have e4 : ((((rmC q M).setIfInBounds 2 (.int .i64 z)).setIfInBounds 3 (.int .u64 (S.t : Int))).setIfInBounds 5 (.bool true)).setIfInBounds 6 (.bool y) = #[.pointer (some ⟨q, 0, none⟩), .int .i64 (placeE M), .int .i64 z, .int .u64 (S.t : Int), .bool (!M.push), .bool true, .bool y] := rfl
    rw [e4, HBP.out] at k6
    exact k6
theorem stept_rm {w' : World} {q b : Nat} {M' : MV} {cs : Array Value} (k : Blk w' b 41 cs) (e : cs = rmC q M') : RM w' b q M' := by subst e; exact k
theorem rstep_take (w : World) {q b : Nat} {v : Value} {S : SS} {M : MV} (h : RS w q v S) (k : RM w b q M) (g : GoodS S) (gm : GoodM S M) (hm : ManyB S) (ho : M.over = false) (hl : M.looked = true) (hp : M.push = false) (hb : b ≠ q) (hv : ∀ k, In v k → k ≠ b) :
    Calls Try.prog 14 #[.pointer (some ⟨b, 0, none⟩)] w fun e w' => e = .returned (.bool true) ∧ Stept w w' q b v (takeE S M).1 (takeE S M).2 := by
  have hpos := gm.po hl hp ho
  have hat := gm.att hl
  have hL : M.tag = S.t → S.L ≠ [] := fun e h0 => by have := hat e; rw [h0] at this; rw [this] at hpos; simp [topI] at hpos
  obtain ⟨bp, pl, lo, tp, tg, ov⟩ := M
  simp only at ho hl hp hpos hL
  subst ho hl hp
  have TK := fun (w' : World) (h' : RS w' q v S) => rtake_any w' h' g hm (t := tg) hL
  have c0 := k.c0; have c3 := k.c3; have c4 := k.c4; have c5 := k.c5; have c6 := k.c6
  have f5 := Blk.frozen k 5
  simp only at c3 c4 c5 c6
  have hs0 := rs_set h hb hv 5 (.bool false)
  have k0 := Blk.put k 5 (.bool false)
  have u0 : RW q b w (w.setCell ⟨b, 5, none⟩ (.bool false)) := RW.set (Upd.refl _ w) 5 _
  obtain ⟨W, hW⟩ : ∃ z, w.setCell ⟨b, 5, none⟩ (.bool false) = z := ⟨_, rfl⟩
  rw [hW] at hs0 k0 u0
  have ek : (rmC q ⟨false, pl, true, tp, tg, false⟩).setIfInBounds 5 (.bool false) = #[.pointer (some ⟨q, 0, none⟩), .int .i64 (-1), .int .i64 tp, .int .u64 (tg : Int), .bool true, .bool false, .bool false] := rfl
  rw [ek] at k0
  have m0 : W.cell? ⟨b, 0, none⟩ = some (.pointer (some ⟨q, 0, none⟩)) := k0.cell 0
  have m3 : W.cell? ⟨b, 3, none⟩ = some (.int .u64 (tg : Int)) := k0.cell 3
  have m4 : W.cell? ⟨b, 4, none⟩ = some (.bool true) := k0.cell 4
  obtain ⟨y, hy⟩ : ∃ y, decide (tg = S.t) = y := ⟨_, rfl⟩
  rw [hy] at TK
  have T0 := Lib.hid (TK W hs0)
  have TD := Lib.hid (TK W.drew hs0)
  have hE : takeE S ⟨false, pl, true, tp, tg, false⟩ = (takeS S tg, ⟨false, pl, false, tp, tg, y⟩) := by
    rw [← hy]; unfold takeE takeS
    by_cases ht : tg = S.t <;> simp [ht]
  rw [hE]
  have KH := Lib.hid k0; have UH := Lib.hid u0; have NE := Lib.hid (And.intro hb hv)
  clear h k g gm hm hpos hat hL TK hs0 k0 u0 ek hy hE hb hv
  go_enter Try.func14, Try.ntmps14
  go_wp2
  go_region_held3 (fun w' => w'.cell? ⟨b, 0, none⟩ = some (.pointer (some ⟨q, 0, none⟩)) ∧ w'.cell? ⟨b, 3, none⟩ = some (.int .u64 (tg : Int))) (first | go_keep | exact ⟨m0, m3⟩) (first | (go_at_call 30; (first | (with_reducible refine T0.out.mono ?_) | (with_reducible refine TD.out.mono ?_)); rintro e w7 ⟨rfl, ⟨v', h7, i7⟩, u7⟩; have k7 := Blk.upd (show Blk W.drew b _ _ from KH.out) u7 (fun e => NE.out.1 e); have m0 : w7.cell? ⟨b, 0, none⟩ = some (.pointer (some ⟨q, 0, none⟩)) := k7.cell 0; have m3 : w7.cell? ⟨b, 3, none⟩ = some (.int .u64 (tg : Int)) := k7.cell 3; have m1 : w7.cell? ⟨b, 1, none⟩ = some (.int .i64 (-1)) := k7.cell 1; have m2 : w7.cell? ⟨b, 2, none⟩ = some (.int .i64 tp) := k7.cell 2; have m6 : w7.cell? ⟨b, 6, none⟩ = some (.bool false) := k7.cell 6; have f1 := Blk.frozen k7 1; have f6 := Blk.frozen k7 6; have K7 := Lib.hid k7; have H7 := Lib.hid (And.intro h7 i7); have U7 := Lib.hid u7; clear h7 i7 u7 k7))
  cases y with
  | true =>
    go_wp2
    go_ret
    have hi : ∀ k, In v' k → k ≠ b := fun k hk => NE.out.2 k (H7.out.2 k hk)
    refine ⟨rfl, ⟨v', rs_set (rs_set H7.out.1 NE.out.1 hi 1 _) NE.out.1 hi 6 _, fun k hk => .inl (H7.out.2 k hk)⟩, ?_, RW.set (RW.set (Upd.trans (Upd.drew UH.out) (QW.rw U7.out)) 1 _) 6 _⟩
    exact stept_rm ((Blk.put K7.out 1 (.int .i64 tp)).put 6 (.bool true)) rfl
  | false =>
    go_wp2
    go_ret
    refine ⟨rfl, ⟨v', H7.out.1, fun k hk => .inl (H7.out.2 k hk)⟩, ?_, Upd.trans (Upd.drew UH.out) (QW.rw U7.out)⟩
    exact stept_rm K7.out rfl
theorem rstep_put (w : World) {q b : Nat} {v : Value} {S : SS} {M : MV} (h : RS w q v S) (k : RM w b q M) (g : GoodS S) (gm : GoodM S M) (hm : ManyB S) (ho : M.over = false) (hl : M.looked = true) (hp : M.push = true) (hb : b ≠ q) (hv : ∀ k, In v k → k ≠ b) :
    Calls Try.prog 14 #[.pointer (some ⟨b, 0, none⟩)] w fun e w' => e = .returned (.bool true) ∧ Stept w w' q b v (putE S M).1 (putE S M).2 := by
  have hpl := gm.pl
  obtain ⟨bp, pl, lo, tp, tg, ov⟩ := M
  simp only at ho hl hp hpl
  subst ho hl hp
  -- what Put makes, by cases
  obtain ⟨S', go, er, ovr, hE, hP⟩ : ∃ (S' : SS) (go : Bool) (er : Int) (ovr : Bool), (putE S ⟨true, pl, true, tp, tg, false⟩ = (S', ⟨true, pl, false, tp, tg, ovr⟩) ∧ ((go = true ∧ ovr = true) ∨ (go = false ∧ (er != 0) = ovr))) ∧
      ∀ w' : World, RS w' q v S → Calls Try.prog 31 #[.pointer (some ⟨q, 0, none⟩), .int .i64 (pl : Int), .int .u64 (tg : Int)] w' fun e w2 => e = .returned (.tuple #[.bool go, .int .i64 er]) ∧ (∃ v', RS w2 q v' S' ∧ ∀ k, In v' k → In v k ∨ w'.heap.size ≤ k) ∧ QW q w' w2 := by
    by_cases hp : pl ∈ S.L
    · refine ⟨S, false, 6, true, ⟨by simp [putE, hp], .inr ⟨rfl, rfl⟩⟩, fun w' h' => (rput_any w' h' g hm hpl tp (t := tg)).mono fun e w2 k => ?_⟩
      obtain ⟨k1, k2⟩ := k.1 hp
      rw [k2]
      exact ⟨k1, ⟨v, h', fun _ h => .inl h⟩, Upd.refl _ _⟩
    · by_cases ht : tg = S.t
      · refine ⟨putS S pl tp tg, true, 0, true, ⟨by simp [putE, putS, hp, ht], .inl ⟨rfl, rfl⟩⟩, fun w' h' => (rput_any w' h' g hm hpl tp (t := tg)).mono fun e w2 k => ?_⟩
        have := k.2 hp
        rw [decide_eq_true ht] at this
        exact this
      · refine ⟨putS S pl tp tg, false, 0, false, ⟨by simp [putE, putS, hp, ht], .inr ⟨rfl, rfl⟩⟩, fun w' h' => (rput_any w' h' g hm hpl tp (t := tg)).mono fun e w2 k => ?_⟩
        have := k.2 hp
        rw [decide_eq_false ht] at this
        exact this
  rw [hE.1]
  have c0 := k.c0; have c3 := k.c3; have c4 := k.c4; have c5 := k.c5; have c6 := k.c6
  have f5 := Blk.frozen k 5
  simp only at c3 c4 c5 c6
  have hs0 := rs_set h hb hv 5 (.bool false)
  have k0 := Blk.put k 5 (.bool false)
  have u0 : RW q b w (w.setCell ⟨b, 5, none⟩ (.bool false)) := RW.set (Upd.refl _ w) 5 _
  have hsz : (w.setCell ⟨b, 5, none⟩ (.bool false)).heap.size = w.heap.size := World.size_setCell _ _ _
  obtain ⟨W, hW⟩ : ∃ z, w.setCell ⟨b, 5, none⟩ (.bool false) = z := ⟨_, rfl⟩
  rw [hW] at hs0 k0 u0 hsz
  have ek : (rmC q ⟨true, pl, true, tp, tg, false⟩).setIfInBounds 5 (.bool false) = #[.pointer (some ⟨q, 0, none⟩), .int .i64 (pl : Int), .int .i64 tp, .int .u64 (tg : Int), .bool false, .bool false, .bool false] := rfl
  rw [ek] at k0
  have m0 : W.cell? ⟨b, 0, none⟩ = some (.pointer (some ⟨q, 0, none⟩)) := k0.cell 0
  have m1 : W.cell? ⟨b, 1, none⟩ = some (.int .i64 (pl : Int)) := k0.cell 1
  have m3 : W.cell? ⟨b, 3, none⟩ = some (.int .u64 (tg : Int)) := k0.cell 3
  have m4 : W.cell? ⟨b, 4, none⟩ = some (.bool false) := k0.cell 4
  have T0 := Lib.hid (hP W hs0)
  have TD := Lib.hid (hP W.drew hs0)
  have hE2 := hE.2
  have HE := Lib.hid hE2
  have KH := Lib.hid k0; have UH := Lib.hid u0; have NE := Lib.hid (And.intro hb hv); have HSZ := Lib.hid (And.intro hsz k.lt)
  clear h k g gm hm hs0 k0 u0 ek hE hE2 hb hv hP hsz hpl
  rcases HE.out with ⟨rfl, rfl⟩ | ⟨rfl, hov⟩
  · go_enter Try.func14, Try.ntmps14
    go_wp2
    go_region_held3 (fun w' => w'.cell? ⟨b, 0, none⟩ = some (.pointer (some ⟨q, 0, none⟩)) ∧ w'.cell? ⟨b, 1, none⟩ = some (.int .i64 (pl : Int)) ∧ w'.cell? ⟨b, 3, none⟩ = some (.int .u64 (tg : Int))) (first | go_keep | exact ⟨m0, m1, m3⟩) (first | (go_at_call 31; (first | (with_reducible refine T0.out.mono ?_) | (with_reducible refine TD.out.mono ?_)); rintro e w7 ⟨rfl, ⟨v', h7, i7⟩, u7⟩; have k7 := Blk.upd (show Blk W.drew b _ _ from KH.out) u7 (fun e => NE.out.1 e); have m0 : w7.cell? ⟨b, 0, none⟩ = some (.pointer (some ⟨q, 0, none⟩)) := k7.cell 0; have m1 : w7.cell? ⟨b, 1, none⟩ = some (.int .i64 (pl : Int)) := k7.cell 1; have m3 : w7.cell? ⟨b, 3, none⟩ = some (.int .u64 (tg : Int)) := k7.cell 3; have m6 : w7.cell? ⟨b, 6, none⟩ = some (.bool false) := k7.cell 6; have f6 := Blk.frozen k7 6; have K7 := Lib.hid k7; have H7 := Lib.hid (And.intro h7 i7); have U7 := Lib.hid u7; clear h7 i7 u7 k7))
    go_wp2
    go_ret
    have hi : ∀ k, In v' k → k ≠ b := fun k hk => by
      rcases H7.out.2 k hk with h | h
      · exact NE.out.2 k h
      · have h : W.heap.size ≤ k := h; have := HSZ.out.1; have := HSZ.out.2; omega
    refine ⟨rfl, ⟨v', rs_set H7.out.1 NE.out.1 hi 6 _, fun k hk => (H7.out.2 k hk).imp id fun h => by have h : W.heap.size ≤ k := h; have := HSZ.out.1; omega⟩, ?_, RW.set (Upd.trans (Upd.drew UH.out) (QW.rw U7.out)) 6 _⟩
    exact stept_rm (Blk.put K7.out 6 (.bool true)) rfl
  · go_enter Try.func14, Try.ntmps14
    go_wp2
    go_region_held3 (fun w' => w'.cell? ⟨b, 0, none⟩ = some (.pointer (some ⟨q, 0, none⟩)) ∧ w'.cell? ⟨b, 1, none⟩ = some (.int .i64 (pl : Int)) ∧ w'.cell? ⟨b, 3, none⟩ = some (.int .u64 (tg : Int))) (first | go_keep | exact ⟨m0, m1, m3⟩) (first | (go_at_call 31; (first | (with_reducible refine T0.out.mono ?_) | (with_reducible refine TD.out.mono ?_)); rintro e w7 ⟨rfl, ⟨v', h7, i7⟩, u7⟩; have k7 := Blk.upd (show Blk W.drew b _ _ from KH.out) u7 (fun e => NE.out.1 e); have m0 : w7.cell? ⟨b, 0, none⟩ = some (.pointer (some ⟨q, 0, none⟩)) := k7.cell 0; have m1 : w7.cell? ⟨b, 1, none⟩ = some (.int .i64 (pl : Int)) := k7.cell 1; have m3 : w7.cell? ⟨b, 3, none⟩ = some (.int .u64 (tg : Int)) := k7.cell 3; have m6 : w7.cell? ⟨b, 6, none⟩ = some (.bool false) := k7.cell 6; have f6 := Blk.frozen k7 6; have K7 := Lib.hid k7; have H7 := Lib.hid (And.intro h7 i7); have U7 := Lib.hid u7; clear h7 i7 u7 k7))
    go_wp2
    go_ret
    have hi : ∀ k, In v' k → k ≠ b := fun k hk => by
      rcases H7.out.2 k hk with h | h
      · exact NE.out.2 k h
      · have h : W.heap.size ≤ k := h; have := HSZ.out.1; have := HSZ.out.2; omega
    refine ⟨rfl, ⟨v', rs_set H7.out.1 NE.out.1 hi 6 _, fun k hk => (H7.out.2 k hk).imp id fun h => by have h : W.heap.size ≤ k := h; have := HSZ.out.1; omega⟩, ?_, RW.set (Upd.trans (Upd.drew UH.out) (QW.rw U7.out)) 6 _⟩
    exact stept_rm (Blk.put K7.out 6 (.bool ovr)) rfl
theorem rstep_any (w : World) {q b : Nat} {v : Value} {S : SS} {M : MV} (h : RS w q v S) (k : RM w b q M) (g : GoodS S) (gm : GoodM S M) (hm : ManyB S) (hb : b ≠ q) (hv : ∀ k, In v k → k ≠ b) :
    Calls Try.prog 14 #[.pointer (some ⟨b, 0, none⟩)] w fun e w' => e = .returned (.bool (!M.over)) ∧ Stept w w' q b v (stepE S M).1 (stepE S M).2 := by
  unfold stepE
  by_cases ho : M.over = true
  · rw [if_pos ho, ho]; exact rstep_over w h k ho
  · have ho' : M.over = false := by simpa using ho
    rw [if_neg ho, ho']
    by_cases hl : M.looked = false
    · rw [if_pos hl]; exact rstep_look w h k hm ho' hl hb hv g
    · have hl' : M.looked = true := by simpa using hl
      rw [if_neg hl]
      by_cases hp : M.push = true
      · rw [if_pos hp]; exact rstep_put w h k g gm hm ho' hl' hp hb hv
      · have hp' : M.push = false := by simpa using hp
        rw [if_neg hp]; exact rstep_take w h k g gm hm ho' hl' hp' hb hv
end Go.Proofs.Ytgaecgijmnkdgaa
