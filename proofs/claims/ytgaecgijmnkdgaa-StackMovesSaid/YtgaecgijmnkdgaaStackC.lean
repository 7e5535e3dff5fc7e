/- The landed stack: Contains, Put, Take. -/
import Derived.Test.YtgaecgijmnkdgaaStackB
namespace Go.Proofs.Ytgaecgijmnkdgaa
open Go.RowKit StackMath
set_option linter.unusedVariables false
set_option maxRecDepth 100000

theorem Vec.at13 {w : World} {a : Option Addr} {n c : Nat} {l : List Int} (h : Seq Elem.ints w (.slice a n c) l) {t : Nat} (ht : t < l.length) : ∃ b off y, a = some ⟨b, off, none⟩ ∧ l[t]? = some y ∧ y ∈ l ∧ w.cell? ⟨b, off + t, none⟩ = some (.int .i64 y) := by
  have hy : l[t]? = some l[t] := List.getElem?_eq_getElem ht
  obtain ⟨b, off, ea, hc⟩ := h.elem hy
  have h0 := hc 0 (.int .i64 l[t]) rfl
  exact ⟨b, off, l[t], ea, hy, List.mem_of_getElem? hy, by simpa [Elem.ints] using h0⟩
def IdxR (l : List Int) (x : Int) (w : World) (i : Value) (wr : World) : Prop := ∃ t : Nat, t ≤ l.length ∧ i = .int .i64 (t : Int) ∧ (∀ y ∈ l.take t, x ≠ y) ∧ w = wr
theorem take_next13 {l : List Int} {t : Nat} {o : Int} {φ : Int → Prop} (h : ∀ x ∈ l.take t, φ x) (ho : l[t]? = some o) (hφ : φ o) : ∀ x ∈ l.take (t + 1), φ x := fun x hx => by
  rw [List.take_add_one, ho] at hx
  rcases List.mem_append.1 hx with hx | hx
  · exact h x hx
  · rw [List.mem_singleton.1 hx]; exact hφ
set_option maxHeartbeats 1000000 in
theorem index_any (w : World) {v : Value} {l : List Int} (h : Vec Elem.ints w v l) {x : Int} :
    Calls Try.prog 38 #[v, .int .i64 x] w fun e w' => ∃ k : Int, e = .returned (.int .i64 k) ∧ decide (0 ≤ k) = decide (x ∈ l) ∧ w' = w := by
  obtain ⟨a, c, rfl, h1, h2⟩ := h.slice'
  obtain ⟨n, hn⟩ : ∃ n, l.length = n := ⟨_, rfl⟩
  rw [hn] at h h1 ⊢
  have HN := Lib.hid hn; have H := Lib.hid h
  have I0 := Lib.hid (show IdxR l x w (.int .i64 0) w from ⟨0, Nat.zero_le _, rfl, by simp, rfl⟩)
  clear h hn
  go_enter Try.func38, Try.ntmps38
  go_wp2
  go_loopw [8] (fun i wr => IdxR l x w i wr) (fun i _ => n - (intOf i).toNat)
  case atStart => exact I0.out
  case round =>
    clear I0
    obtain ⟨t, ht, rfl, hno, rfl⟩ := hrel
    rw [HN.out] at ht
    have NO := Lib.hid hno
    by_cases htn : t < n
    · obtain ⟨b3, off3, y, ea, hy, hym, d0⟩ := Vec.at13 H.out.seq (t := t) (by rw [HN.out]; exact htn)
      subst ea
      have HY := Lib.hid hy; have HM := Lib.hid hym
      have t2 : decide ((t : Int) < (n : Int)) = true := decide_eq_true (by omega)
      have t2' : decide (t < n) = true := decide_eq_true htn
      have q3 : (0 : Int) ≤ (t : Int) := by omega
      have q4 : (t : Int) < (n : Int) := by omega
      clear hno hy hym
      by_cases hxy : x = y
      · subst hxy
        have t3 : ((x : Int) == x) = true := by simp
        go_wp2
        go_ret
        exact ⟨_, rfl, by rw [decide_eq_true HM.out]; exact decide_eq_true (by omega), rfl⟩
      · have t3 : ((x : Int) == y) = false := by rw [beq_eq_false_iff_ne]; exact hxy
        have HXY := Lib.hid hxy
        clear hxy
        go_wp2
        go_roundw
        case rel => exact ⟨t + 1, by rw [HN.out]; omega, by go_num, take_next13 NO.out HY.out HXY.out, rfl⟩
        case measure => simp [intOf]; omega
    · obtain rfl : t = n := by omega
      have t2 : decide ((t : Int) < (t : Int)) = false := decide_eq_false (by omega)
      clear hno
      have hni : x ∉ l := fun hm => NO.out x (by rw [← HN.out, List.take_length]; exact hm) rfl
      have HNI := Lib.hid hni
      clear hni
      go_wp2
      go_ret
      exact ⟨_, rfl, by rw [decide_eq_false HNI.out]; rfl, rfl⟩
theorem contains_any (w : World) {v : Value} {l : List Int} (h : Vec Elem.ints w v l) {x : Int} :
    Calls Try.prog 34 #[v, .int .i64 x] w fun e w' => e = .returned (.bool (decide (x ∈ l))) ∧ w' = w := by
  have I := Lib.hid (index_any w h (x := x))
  obtain ⟨y, hy⟩ : ∃ y, decide (x ∈ l) = y := ⟨_, rfl⟩
  rw [hy] at I ⊢
  clear h hy
  go_enter Try.func34, Try.ntmps34
  go_wp2_with fail
  refine I.out.mono ?_; rintro e w1 ⟨k, rfl, hk, rfl⟩
  go_wp2
  go_ret
  exact ⟨rfl, rfl⟩
theorem cas_sk (w : World) {s o : Nat} {S : SS} (h : SK w s o S) (g : S.t ≤ S.n) (hm : ManyB S) {t v : Nat} (ht : t ≤ S.t) (hv : v ≤ 64) :
    Calls Try.prog 36 #[.pointer (some ⟨s, o, none⟩), .int .u64 (t : Int), .int .u64 (v : Int)] w fun e w' => e = .returned (.bool (decide (t = S.t))) ∧ (∀ S' : SS, S'.B = S.B → topW S'.L = (if t = S.t then v else topW S.L) → S'.t = (if t = S.t then S.t + 1 else S.t) → S'.n = S.n + 1 → SK w' s o S') ∧ Wrt (fun _ => False) (SPl s o) w w' := by
  have hm' : S.n ≤ 999999999 := hm
  refine (cell_cas w h.cc hm.ask (show S.t ≤ 1000000000 by omega) t v (by omega) (by omega)).mono ?_
  rintro e w1 ⟨h1, h2, h3⟩
  refine ⟨h1, fun S' e1 e2 e3 e4 => h.turn (by rw [e2, e3, e4]; exact h2) h3 e1, h3.mono (fun _ h => h) (fun b i hc => .inr hc.spl)⟩
/-- Put where the place is bad. -/
theorem put_arg (w : World) {s o : Nat} {p i : Int} {t : Nat} (hp : p < 0 ∨ 64 ≤ p) :
    Calls Try.prog 23 #[.pointer (some ⟨s, o, none⟩), .int .i64 p, .int .i64 i, .int .u64 (t : Int)] w fun e w' => e = .returned (.tuple #[.bool false, .int .i64 2]) ∧ w' = w := by
  have P := Lib.hid (fun w' => isPlace_no w' hp)
  clear hp
  go_enter Try.func23, Try.ntmps23
  go_wp2_with fail
  refine (P.out _).mono ?_; rintro e w1 ⟨rfl, rfl⟩
  go_wp2
  go_ret2
  exact ⟨rfl, rfl⟩
/-- What Put makes of a stack where the place isn't there. -/
def putS (S : SS) (p : Nat) (i : Int) (t : Nat) : SS := if t = S.t then ⟨p :: S.L, putB S.B p (wordI i), S.t + 1, S.n + 1⟩ else ⟨S.L, putB S.B p (wordI i), S.t, S.n + 1⟩
set_option maxHeartbeats 1000000 in
theorem put_any (w : World) {s o : Nat} {S : SS} (h : SK w s o S) (g : GoodS S) (hm : ManyB S) {p : Nat} (hp : p < 64) {i : Int} (h1 : -1 ≤ i) (h2 : i ≤ 63) {t : Nat} (ht : t ≤ S.t) :
    Calls Try.prog 23 #[.pointer (some ⟨s, o, none⟩), .int .i64 (p : Int), .int .i64 i, .int .u64 (t : Int)] w fun e w' =>
      (p ∈ S.L → e = .returned (.tuple #[.bool false, .int .i64 6]) ∧ SK w' s o S ∧ Wrt (fun _ => False) (SPl s o) w w') ∧
      (p ∉ S.L → e = .returned (.tuple #[.bool (decide (t = S.t)), .int .i64 0]) ∧ SK w' s o (putS S p i t) ∧ Wrt (fun _ => False) (SPl s o) w w') := by
  have P := Lib.hid (fun w' => isPlace_yes w' hp)
  have A := Lib.hid (all_any w h g hm)
  have H := Lib.hid h; have G := Lib.hid g; have HM := Lib.hid hm; have HT := Lib.hid ht
  have q1 : (0 : Int) ≤ (p : Int) := by omega
  have q2 : (p : Int) < 64 := by omega
  obtain ⟨y, hy⟩ : ∃ y, decide ((p : Int) ∈ toI S.L) = y := ⟨_, rfl⟩
  have HY := Lib.hid hy
  have W := Lib.hid (fun w' => wordOf_any w' h1 h2)
  have WP := Lib.hid (fun w' => wordOf_any w' (i := (p : Int)) (by omega) (by omega))
  clear h g hm ht hy
  have T3 : Hid (i = -1 ∨ ∃ q : Nat, i = (q : Int) ∧ q < 64) := Lib.hid (by
    by_cases h0 : i = -1
    · exact .inl h0
    · exact .inr ⟨i.toNat, by omega, by omega⟩)
  go_enter Try.func23, Try.ntmps23
  go_wp2_with fail
  refine (P.out _).mono ?_; rintro e w1 ⟨rfl, k⟩; obtain rfl := k.symm; clear k
  rcases T3.out with hi | ⟨q, hi, hq⟩
  · have t1 : ((i : Int) != -1) = false := by rw [hi]; rfl
    clear hi
    go_wp2_with fail
    refine A.out.mono ?_; rintro e w2 ⟨v, rfl, hv, _, hb⟩
    have CT := contains_any w2 hv (x := (p : Int))
    rw [HY.out] at CT
    have CT := Lib.hid CT
    have hs2 := H.out.grew hb
    have U2 := Lib.hid (Wrt.ofBelow (S := fun _ => False) (C := SPl s o) hb)
    have S2 := Lib.hid hs2
    clear hv hb hs2 A
    go_wp2_with fail
    refine CT.out.mono ?_; rintro e w3 ⟨rfl, k⟩; obtain rfl := k.symm; clear k CT
    cases y with
    | true =>
      go_wp2
      go_ret2
      have hin : p ∈ S.L := mem_toI.1 (of_decide_eq_true HY.out)
      exact ⟨fun _ => ⟨rfl, S2.out, U2.out⟩, fun h => absurd hin h⟩
    | false =>
      have hnot : p ∉ S.L := fun h => by have := of_decide_eq_false HY.out; exact this (mem_toI.2 h)
      have NI := Lib.hid hnot
      have f1 := S2.out.frozen (o + 3 + p)
      have cl := S2.out.cell hp
      have wi : wordI i ≤ 64 := wordI_le h2
      have wp : wordI (p : Int) ≤ 64 := wordI_le (by omega)
      have hput := fun (w' : World) (h : SK w' s o S) => h.put hp (wordI i) _ rfl
      have CS := Lib.hid (fun (w' : World) (h : SK w' s o ⟨S.L, putB S.B p (wordI i), S.t, S.n⟩) => cas_sk w' h (show S.t ≤ S.n from G.out.tn) (show ManyB _ from HM.out) (show t ≤ S.t from HT.out) wp)
      have HP := Lib.hid hput
      clear hnot hput
      obtain ⟨z, hz⟩ : ∃ z, wordI i = z := ⟨_, rfl⟩
      obtain ⟨zp, hzp⟩ : ∃ z, wordI (p : Int) = z := ⟨_, rfl⟩
      rw [hz] at W wi CS HP
      rw [hzp] at WP wp CS
      have HZ := Lib.hid hz; have HZP := Lib.hid hzp
      clear hz hzp
      go_wp2
      go_region_held3 (fun _ => True) (first | go_keep | trivial) (first | (go_at_call 35; (with_reducible refine (W.out _).mono ?_); rintro e w3 ⟨rfl, k⟩; obtain rfl := k.symm; clear k))
      have hs6 : SK ((w2.setCell ⟨s, o + 3 + p, none⟩ (.int .u64 (z : Int))).drew) s o ⟨S.L, putB S.B p z, S.t, S.n⟩ := HP.out w2 S2.out
      have hu6 : Wrt (fun _ => False) (SPl s o) w ((w2.setCell ⟨s, o + 3 + p, none⟩ (.int .u64 (z : Int))).drew) := ((U2.out).setCell (b := s) (i := o + 3 + p) ⟨rfl, by omega, by omega⟩ _).drewN 1
      generalize ((w2.setCell ⟨s, o + 3 + p, none⟩ (.int .u64 (z : Int))).drew) = W6 at hs6 hu6 ⊢
      have S6 := Lib.hid hs6; have U6 := Lib.hid hu6
      clear hs6 hu6 f1 cl
      go_wp2
      go_region_held3 (fun _ => True) (first | go_keep | trivial) (first | (go_at_call 35; (with_reducible refine (WP.out _).mono ?_); rintro e w3 ⟨rfl, k⟩; obtain rfl := k.symm; clear k) | (go_at_call 36; (first | (with_reducible refine (CS.out _ S6.out).mono ?_) | (refine (CS.out _ (show SK W6.drew s o _ from S6.out)).mono ?_)); rintro e w7 ⟨rfl, h7, u7⟩; have S7 := Lib.hid h7; have U7 := Lib.hid u7; clear h7 u7))
      go_wp2
      go_ret2
      have e1 : (putS S p i t).B = putB S.B p z := by unfold putS; split <;> (rw [← HZ.out])
      have e2 : topW (putS S p i t).L = (if t = S.t then zp else topW S.L) := by
        unfold putS; split
        · have := HZP.out; simp only [topW]; unfold wordI at this; omega
        · rfl
      have e3 : (putS S p i t).t = (if t = S.t then S.t + 1 else S.t) := by unfold putS; split <;> rfl
      have e4 : (putS S p i t).n = S.n + 1 := by unfold putS; split <;> rfl
      exact ⟨fun h => absurd h NI.out, fun _ => ⟨rfl, S7.out _ e1 e2 e3 e4, (U6.out.drewN 1).trans U7.out⟩⟩
  · have t1 : ((i : Int) != -1) = true := by rw [hi, bne_iff_ne]; omega
    have P2 := Lib.hid (fun w' => isPlace_yes w' hq)
    rw [← hi] at P2
    clear hi
    go_wp2_with fail
    refine (P2.out _).mono ?_; rintro e w1 ⟨rfl, k⟩; obtain rfl := k.symm; clear k
    go_wp2_with fail
    refine A.out.mono ?_; rintro e w2 ⟨v, rfl, hv, _, hb⟩
    have CT := contains_any w2 hv (x := (p : Int))
    rw [HY.out] at CT
    have CT := Lib.hid CT
    have hs2 := H.out.grew hb
    have U2 := Lib.hid (Wrt.ofBelow (S := fun _ => False) (C := SPl s o) hb)
    have S2 := Lib.hid hs2
    clear hv hb hs2 A
    go_wp2_with fail
    refine CT.out.mono ?_; rintro e w3 ⟨rfl, k⟩; obtain rfl := k.symm; clear k CT
    cases y with
    | true =>
      go_wp2
      go_ret2
      have hin : p ∈ S.L := mem_toI.1 (of_decide_eq_true HY.out)
      exact ⟨fun _ => ⟨rfl, S2.out, U2.out⟩, fun h => absurd hin h⟩
    | false =>
      have hnot : p ∉ S.L := fun h => by have := of_decide_eq_false HY.out; exact this (mem_toI.2 h)
      have NI := Lib.hid hnot
      have f1 := S2.out.frozen (o + 3 + p)
      have cl := S2.out.cell hp
      have wi : wordI i ≤ 64 := wordI_le h2
      have wp : wordI (p : Int) ≤ 64 := wordI_le (by omega)
      have hput := fun (w' : World) (h : SK w' s o S) => h.put hp (wordI i) _ rfl
      have CS := Lib.hid (fun (w' : World) (h : SK w' s o ⟨S.L, putB S.B p (wordI i), S.t, S.n⟩) => cas_sk w' h (show S.t ≤ S.n from G.out.tn) (show ManyB _ from HM.out) (show t ≤ S.t from HT.out) wp)
      have HP := Lib.hid hput
      clear hnot hput
      obtain ⟨z, hz⟩ : ∃ z, wordI i = z := ⟨_, rfl⟩
      obtain ⟨zp, hzp⟩ : ∃ z, wordI (p : Int) = z := ⟨_, rfl⟩
      rw [hz] at W wi CS HP
      rw [hzp] at WP wp CS
      have HZ := Lib.hid hz; have HZP := Lib.hid hzp
      clear hz hzp
      go_wp2
      go_region_held3 (fun _ => True) (first | go_keep | trivial) (first | (go_at_call 35; (with_reducible refine (W.out _).mono ?_); rintro e w3 ⟨rfl, k⟩; obtain rfl := k.symm; clear k))
      have hs6 : SK ((w2.setCell ⟨s, o + 3 + p, none⟩ (.int .u64 (z : Int))).drew) s o ⟨S.L, putB S.B p z, S.t, S.n⟩ := HP.out w2 S2.out
      have hu6 : Wrt (fun _ => False) (SPl s o) w ((w2.setCell ⟨s, o + 3 + p, none⟩ (.int .u64 (z : Int))).drew) := ((U2.out).setCell (b := s) (i := o + 3 + p) ⟨rfl, by omega, by omega⟩ _).drewN 1
      generalize ((w2.setCell ⟨s, o + 3 + p, none⟩ (.int .u64 (z : Int))).drew) = W6 at hs6 hu6 ⊢
      have S6 := Lib.hid hs6; have U6 := Lib.hid hu6
      clear hs6 hu6 f1 cl
      go_wp2
      go_region_held3 (fun _ => True) (first | go_keep | trivial) (first | (go_at_call 35; (with_reducible refine (WP.out _).mono ?_); rintro e w3 ⟨rfl, k⟩; obtain rfl := k.symm; clear k) | (go_at_call 36; (first | (with_reducible refine (CS.out _ S6.out).mono ?_) | (refine (CS.out _ (show SK W6.drew s o _ from S6.out)).mono ?_)); rintro e w7 ⟨rfl, h7, u7⟩; have S7 := Lib.hid h7; have U7 := Lib.hid u7; clear h7 u7))
      go_wp2
      go_ret2
      have e1 : (putS S p i t).B = putB S.B p z := by unfold putS; split <;> (rw [← HZ.out])
      have e2 : topW (putS S p i t).L = (if t = S.t then zp else topW S.L) := by
        unfold putS; split
        · have := HZP.out; simp only [topW]; unfold wordI at this; omega
        · rfl
      have e3 : (putS S p i t).t = (if t = S.t then S.t + 1 else S.t) := by unfold putS; split <;> rfl
      have e4 : (putS S p i t).n = S.n + 1 := by unfold putS; split <;> rfl
      exact ⟨fun h => absurd h NI.out, fun _ => ⟨rfl, S7.out _ e1 e2 e3 e4, (U6.out.drewN 1).trans U7.out⟩⟩
theorem take_arg (w : World) {s o : Nat} {i : Int} {t : Nat} (hp : i < 0 ∨ 64 ≤ i) :
    Calls Try.prog 24 #[.pointer (some ⟨s, o, none⟩), .int .i64 i, .int .u64 (t : Int)] w fun e w' => e = .returned (.tuple #[.bool false, .int .i64 2]) ∧ w' = w := by
  have P := Lib.hid (fun w' => isPlace_no w' hp)
  clear hp
  go_enter Try.func24, Try.ntmps24
  go_wp2_with fail
  refine (P.out _).mono ?_; rintro e w1 ⟨rfl, rfl⟩
  go_wp2
  go_ret2
  exact ⟨rfl, rfl⟩
def takeS (S : SS) (t : Nat) : SS := if t = S.t then ⟨S.L.tail, S.B, S.t + 1, S.n + 1⟩ else ⟨S.L, S.B, S.t, S.n + 1⟩
theorem take_any (w : World) {s o : Nat} {S : SS} (h : SK w s o S) (g : GoodS S) (hm : ManyB S) {q : Nat} (hq : q < 64) {t : Nat} (ht : t ≤ S.t) (hat : t = S.t → topI S.L = (q : Int)) :
    Calls Try.prog 24 #[.pointer (some ⟨s, o, none⟩), .int .i64 (q : Int), .int .u64 (t : Int)] w fun e w' =>
      e = .returned (.tuple #[.bool (decide (t = S.t)), .int .i64 0]) ∧ SK w' s o (takeS S t) ∧ Wrt (fun _ => False) (SPl s o) w w' := by
  have P := Lib.hid (fun w' => isPlace_yes w' hq)
  have cl := h.cell hq
  have H := Lib.hid h
  have e2 : topW (takeS S t).L = (if t = S.t then S.B q else topW S.L) := by
    unfold takeS; split
    · rename_i e
      have := hat e
      cases hl : S.L with
      | nil => rw [hl] at this; simp only [topI] at this; omega
      | cons a l =>
        rw [hl] at this
        simp only [topI] at this
        have ea : a = q := by omega
        have := g.ch 0 a (by rw [hl]; rfl)
        rw [hl] at this
        rw [← ea, this]; rfl
    · rfl
  have e1 : (takeS S t).B = S.B := by unfold takeS; split <;> rfl
  have e3 : (takeS S t).t = (if t = S.t then S.t + 1 else S.t) := by unfold takeS; split <;> rfl
  have e4 : (takeS S t).n = S.n + 1 := by unfold takeS; split <;> rfl
  obtain ⟨v, hv⟩ : ∃ v, S.B q = v := ⟨_, rfl⟩
  have CS : ∀ (w' : World), SK w' s o S → Calls Try.prog 36 #[.pointer (some ⟨s, o, none⟩), .int .u64 (t : Int), .int .u64 (v : Int)] w' fun e w2 => e = .returned (.bool (decide (t = S.t))) ∧ SK w2 s o (takeS S t) ∧ w2.cell? ⟨s, o + 3 + q, none⟩ = some (.int .u64 (v : Int)) ∧ Wrt (fun _ => False) (SPl s o) w' w2 := fun w' h => by
    rw [← hv]
    refine (cas_sk w' h g.tn hm ht (g.bb q)).mono ?_
    rintro e w2 ⟨k1, k2, k3⟩
    have k4 := k2 _ e1 e2 e3 e4
    have k5 := k4.cell hq
    rw [e1] at k5
    exact ⟨k1, k4, k5, k3⟩
  have CS := Lib.hid CS
  rw [hv] at cl
  have q1 : (0 : Int) ≤ (q : Int) := by omega
  have q2 : (q : Int) < 64 := by omega
  clear h g hm ht hat e1 e2 e3 e4 hv
  go_enter Try.func24, Try.ntmps24
  go_wp2_with fail
  refine (P.out _).mono ?_; rintro e w1 ⟨rfl, k⟩; obtain rfl := k.symm; clear k
  go_wp2
  go_region_held3 (fun w' => w'.cell? ⟨s, o + 3 + q, none⟩ = some (.int .u64 (v : Int))) (first | go_keep | exact cl) (first | (go_at_call 36; (first | (with_reducible refine (CS.out _ H.out).mono ?_) | (refine (CS.out _ (show SK w.drew s o _ from H.out)).mono ?_)); rintro e w7 ⟨rfl, h7, c7, u7⟩; have cl := c7; have S7 := Lib.hid h7; have U7 := Lib.hid u7; clear h7 u7 c7))
  go_wp2
  go_ret2
  exact ⟨rfl, S7.out, ((Wrt.refl _ _ w).drewN 1).trans U7.out⟩
end Go.Proofs.Ytgaecgijmnkdgaa
