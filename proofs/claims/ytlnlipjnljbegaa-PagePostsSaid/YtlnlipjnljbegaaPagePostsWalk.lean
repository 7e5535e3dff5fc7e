/- The law PagePosts, walked (written by genposts.py). -/
import Derived.Test.YtlnlipjnljbegaaFillUp9
namespace Go.Proofs.Ytlnlipjnljbegaa.pagePosts
open Go.RowKit ListMath PageMath GeoMath
set_option linter.unusedVariables false

def rowT (v0 : Value) (h0 t0 : Nat) (l0 : Bool) (v1 : Value) (h1 t1 : Nat) (l1 : Bool) : Array Value := #[v0, .int .u64 (h0 : Int), .int .u64 (t0 : Int), .bool l0, v1, .int .u64 (h1 : Int), .int .u64 (t1 : Int), .bool l1]
theorem wh_came {L L' : List Nat} {s n j : Nat} {U : List Nat} (g : GoodP L (fresh 1024 s n j)) (h : Wh L (fresh 1024 s n j) U []) (hj : j < n) (e : Agree L L' (newsOf (fresh 1024 s n j))) : Wh L' (fresh 1024 s n (j + 1)) (U ++ [1024 + j * s]) [] := by
  rcases h.alloc g (fresh_alloc hj) e with ⟨_, h1, _⟩ | ⟨h1, _⟩
  · exact h1
  · cases h1
/-- The first blocks go to the two in turns. -/
def Dealing (w : World) (C : PgC w) (pp p g : Nat) (O : Nat → Prop) (nb : Nat) (c : Addr) (s b9 : Nat) (i : Value) (wr : World) : Prop :=
  ∃ (j : Nat) (U0 U1 L : List Nat) (v0 v1 : Value), j ≤ 30 ∧ i = .int .i64 (j : Int) ∧ Has C pp p g O nb c L (fresh 1024 s 41 j) wr ∧ Wh L (fresh 1024 s 41 j) (U0 ++ U1) [] ∧ Blk wr b9 78 (rowT v0 0 0 false v1 0 0 false) ∧ (Row v0 U0 (b9 + 1) wr ∧ Row v1 U1 (b9 + 1) wr ∧ ∀ b, In v0 b → ¬ In v1 b) ∧ U0.length + U1.length = j ∧ b9 + 1 ≤ wr.heap.size
/-- What one looked at is as it was, if the tag is. -/
def Knows (S : PG) (h t : Nat) : Prop := t ≤ S.ct ∧ (t = S.ct → h = S.cw) ∧ h ≤ 1048576
def Posting (w : World) (C : PgC w) (pp p g : Nat) (O : Nat → Prop) (nb : Nat) (c : Addr) (b9 m : Nat) (q i : Value) (wr : World) : Prop :=
  ∃ (j : Nat) (U0 U1 P L : List Nat) (S : PG) (v0 v1 : Value) (h0 t0 : Nat) (l0 : Bool) (h1 t1 : Nat) (l1 : Bool), j ≤ m ∧ i = .int .i64 (j : Int) ∧ q = .int .i64 (P.length : Int) ∧ Has C pp p g O nb c L S wr ∧ Wh L S (U0 ++ U1) P ∧ Blk wr b9 78 (rowT v0 h0 t0 l0 v1 h1 t1 l1) ∧ (Row v0 U0 (b9 + 1) wr ∧ Row v1 U1 (b9 + 1) wr) ∧ U0.length + U1.length + P.length = 30 ∧ Knows S h0 t0 ∧ Knows S h1 t1 ∧ S.ct ≤ j ∧ b9 + 1 ≤ wr.heap.size
theorem Knows.ask {S : PG} {h t : Nat} (k : Knows S h t) : Knows S.asked h t := k
theorem Knows.wrote {S : PG} {h t x : Nat} (k : Knows S h t) : Knows (S.wrote x) h t := ⟨Nat.le_succ_of_le k.1, fun e => by have h1 := k.1; have h2 : t = S.ct + 1 := e; omega, k.2.2⟩
set_option maxRecDepth 100000 in
set_option maxHeartbeats 8000000 in
theorem walk_short (w : World) (C : PgC w) {a : Option Addr} {cap : Nat} (l : List Bool) (h : FlagsAt w (.slice a l.length cap) l) (hl : l.length ≤ 200) (sz : Int) (hsw : (Lit.int .u8 sz).wf = true) :
    Calls Try.prog 7 #[.slice a l.length cap, .int .u8 sz] w fun e w' => e = .returned (.bool true) ∧ Below w.heap.size w w' := by
  obtain ⟨e1, hs1⟩ := u8_of hsw
  obtain ⟨A, hA⟩ : ∃ A, sz.toNat = A := ⟨_, rfl⟩
  rw [hA] at e1 hs1
  subst e1
  obtain ⟨m, hm⟩ : ∃ m, l.length = m := ⟨_, rfl⟩
  rw [hm] at h hl ⊢
  have HM := Lib.hid hm; have HF := Lib.hid h
  have tm : decide ((200 : Int) < (m : Int)) = false := decide_eq_false (by omega)
  clear hsw hA hm h
  obtain ⟨i0, hi, hz0, hz1, hz2⟩ := info_parts infoU64
  go_enter Try.func7, Try.ntmps7
  go_wp2_with fail
  refine (alive_any _ C).mono ?_; rintro e w1 ⟨rfl, hb⟩
  have B1 := Lib.hid hb
  clear hb
  go_wp2_with fail
  refine (made_any w C A 40 hs1 (by decide) _ B1.out).mono ?_; rintro e w2 ⟨pp, p, g, O, nb, c, L0, rfl, hh, hl0, hnb⟩
  have hsb := size_bd A
  obtain ⟨s, hs⟩ : ∃ s, sizeN A = s := ⟨_, rfl⟩
  rw [hs] at hh hsb
  rw [hs]
  rw [show countN 40 = 41 by decide] at hh ⊢
  obtain ⟨s16, s256⟩ := hsb
  rw [← fresh_zero] at hh
  have H2 := Lib.hid hh; have HNB := Lib.hid hnb
  clear hh hl0 hnb hs
  unfold runV
  obtain ⟨w3, hw3⟩ : ∃ x, w2.alloc (.cells #[.int .u64 1024, .int .u64 (s : Int), .int .i64 41] 34) = x := ⟨_, rfl⟩
  have h3 := H2.out.alloc (.cells #[.int .u64 1024, .int .u64 (s : Int), .int .i64 41] 34)
  have s3 : w3.heap.size = w2.heap.size + 1 := by rw [← hw3]; simp
  rw [hw3] at h3
  have h4 := h3.alloc (.cells #[.slice none 0 0, .int .u64 0, .int .u64 0, .bool false, .slice none 0 0, .int .u64 0, .int .u64 0, .bool false] 78)
  have b9' : Blk (w3.alloc (.cells #[.slice none 0 0, .int .u64 0, .int .u64 0, .bool false, .slice none 0 0, .int .u64 0, .int .u64 0, .bool false] 78)) w3.heap.size 78 (rowT (.slice none 0 0) 0 0 false (.slice none 0 0) 0 0 false) := Blk.new w3 _ _
  obtain ⟨w4, hw4⟩ : ∃ x, w3.alloc (.cells #[.slice none 0 0, .int .u64 0, .int .u64 0, .bool false, .slice none 0 0, .int .u64 0, .int .u64 0, .bool false] 78) = x := ⟨_, rfl⟩
  have s4 : w4.heap.size = w3.heap.size + 1 := by rw [← hw4]; simp
  rw [hw4] at h4 b9'
  obtain ⟨b9, hb9⟩ : ∃ k, w3.heap.size = k := ⟨_, rfl⟩
  rw [hb9] at b9' s4
  have H4 := Lib.hid h4; have BB := Lib.hid b9'
  have hnb9 : nb + 1 = b9 := by rw [HNB.out]; omega
  have S4 := Lib.hid s4; have NB9 := Lib.hid hnb9
  clear h3 h4 b9' s3 s4 hnb9
  go_wp2_with fail
  clear hw3 hw4 hb9
  go_loopw [40] (fun i wr => Dealing w C pp p g O nb c s b9 i wr) (fun i _ => 30 - (intOf i).toNat)
  case atStart => exact ⟨0, [], [], L0, .slice none 0 0, .slice none 0 0, Nat.zero_le _, rfl, H4.out, by rw [fresh_zero]; exact Wh.new _ _ _ _, BB.out, ⟨Row.nil _ _, Row.nil _ _, fun b h => by cases h⟩, rfl, by rw [S4.out]; exact Nat.le_refl _⟩
  case round =>
    obtain ⟨j, U0, U1, L, v0, v1, hj, rfl, hh, hw, hb, ⟨hr0, hr1, hd⟩, hlen, hk⟩ := hrel
    obtain ⟨a0, c0, rfl, hc0, hc0'⟩ := hr0.slice
    obtain ⟨a1, c1, rfl, hc1, hc1'⟩ := hr1.slice
    obtain ⟨k0, hk0⟩ : ∃ k, U0.length = k := ⟨_, rfl⟩
    obtain ⟨k1, hk1⟩ : ∃ k, U1.length = k := ⟨_, rfl⟩
    rw [hk0] at hr0 hd hc0 hlen hb
    rw [hk1] at hr1 hd hc1 hlen hb
    have HW := Lib.hid hw; have HB := Lib.hid hb; have R0 := Lib.hid hr0; have R1 := Lib.hid hr1; have HD := Lib.hid hd; have LEN := Lib.hid hlen; have HK := Lib.hid hk; have K0 := Lib.hid hk0; have K1 := Lib.hid hk1
    clear hw hb hr0 hr1 hd hlen hk hk0 hk1
    by_cases hjn : j < 30
    · have hk0' : k0 ≤ 30 := by have := LEN.out; omega
      have hk1' : k1 ≤ 30 := by have := LEN.out; omega
      have t2 : decide ((j : Int) < 30) = true := decide_eq_true (by omega)
      have hal := has_alloc hh
      rw [fresh_alloc (by omega)] at hal
      have hx0 := blk_u64 s256 (show 41 ≤ 60 by decide) (show j < 41 by omega)
      have hgd := C.good hh.pg
      obtain ⟨x, hx⟩ : ∃ x, 1024 + j * s = x := ⟨_, rfl⟩
      simp only [] at hal
      rw [hx] at hal hx0
      have AL := Lib.hid hal; have HX := Lib.hid hx; have HH := Lib.hid hh; have GD := Lib.hid hgd
      clear hal hx hh hgd
      go_wp2_with fail
      refine AL.out.mono ?_; rintro e w5 ⟨L', rfl, hh, hag, hu⟩
      have hw5 := wh_came GD.out HW.out (by omega) hag
      rw [HX.out] at hw5
      have hOb : ∀ b, O b → b < b9 + 1 := fun b hb => by have h1 := HH.out.hi b hb; have h2 := NB9.out; omega
      have r05 := R0.out.upd hu hOb
      have r15 := R1.out.upd hu hOb
      have b5 := HH.out.blk hu HB.out (by have := NB9.out; omega)
      have hk5 : b9 + 1 ≤ w5.heap.size := Nat.le_trans HK.out hu.size
      have W5 := Lib.hid hw5; have H5 := Lib.hid hh; have R05 := Lib.hid r05; have R15 := Lib.hid r15; have B5 := Lib.hid b5; have K5 := Lib.hid hk5
      clear hh hag hu hw5 r05 r15 hk5 hOb
      rcases Nat.mod_two_eq_zero_or_one j with hp | hp
      · have em1 : (j : Int) % 2 = 0 := by omega
        have em2 : Int.tmod (j : Int) 2 = 0 := by rw [Int.tmod_eq_emod_of_nonneg (by omega)]; exact em1
        have d0 : (w5.alloc (.cells #[.int .u64 (x : Int)] 22)).cell? ⟨b9, 0, none⟩ = some (.slice a0 k0 c0) := (b5.alloc _).cell 0
        have d1 : w5.cell? ⟨b9, 0, none⟩ = some (.slice a0 k0 c0) := b5.cell 0
        clear hp b5
        go_wp2_with (at_builtin; refine wpList_append_vec (E := Elem.u64s) rfl (.tmp 56) (.tmp 58) 38 rfl 22 i0 (.int .u64 0) 8 Try.underlying38 hi hz0 hz1 hz2 rfl (.slice a0 k0 c0) (.slice (some ⟨w5.heap.size, 0, none⟩) 1 1) U0 [x] rfl rfl (R05.out.alloc _).vec (u64_oneAt w5 22 x _ rfl) ?_ ?_ ?_; (rw [K0.out]; simp only [maxLen, List.length_cons, List.length_nil]; omega); (rw [K0.out]; simp only [List.length_cons, List.length_nil]; omega); intro v2 w6 hv2 hu2 hin2; have hnb6 : ¬ In (.slice a0 k0 c0) b9 := (fun hb => by have := R05.out.far _ hb; omega); have b6 := (B5.out.alloc (.cells #[.int .u64 (x : Int)] 22)).upd hu2 hnb6; obtain ⟨a2, c2, rfl, hd1, hd2⟩ := hv2.slice'; obtain ⟨k2, hk2⟩ : ∃ k, (U0 ++ [x]).length = k := ⟨_, rfl⟩; rw [hk2] at hv2 hin2 hd1 ⊢; have hrr := (R05.out.alloc _).app (by rw [World.size_alloc]; have := K5.out; omega) hv2 hin2; have hro := (R15.out.alloc (.cells #[.int .u64 (x : Int)] 22)).upd' hu2 (fun b h1 h2 => HD.out b h2 h1); have hh6 := (H5.out.alloc (.cells #[.int .u64 (x : Int)] 22)).upd hu2 H5.out.low (fun b hb => by have h1 := R05.out.far b hb; have h2 := NB9.out; omega); have hk6 : b9 + 1 ≤ w6.heap.size := (by have h1 := hu2.size; rw [World.size_alloc] at h1; have h2 := K5.out; omega); have dj : ∀ b, In (.slice a2 k2 c2) b → ¬ In (.slice a1 k1 c1) b := (fun b h1 h2 => by rcases hin2 b h1 with h | h; exact HD.out b h h2; (have h3 := (R15.out.vec.lt h2); rw [World.size_alloc] at h; omega)); have e0 : w6.cell? ⟨b9, 0, none⟩ = some (.slice a0 k0 c0) := b6.cell 0; have f0 : w6.frozen? ⟨b9, 0, none⟩ = false := b6.frozen 0; have B6 := Lib.hid b6; have RR := Lib.hid hrr; have RO := Lib.hid hro; have H6 := Lib.hid hh6; have K6 := Lib.hid hk6; have DJ := Lib.hid dj; have KL := Lib.hid hk2; clear b6 hv2 hu2 hin2 hrr hro hh6 hk6 dj hnb6 hk2)
        have hput := B6.out.put 0 (.slice a2 k2 c2)
        have hset := H6.out.setCell (a := ⟨b9, 0, none⟩) (by have := NB9.out; simp only; omega) (.slice a2 k2 c2)
        have ub := (Upd.refl (fun b => b = b9) w6).setCell (p := ⟨b9, 0, none⟩) (.inl rfl) (.slice a2 k2 c2)
        refine ⟨⟨j + 1, U0 ++ [x], U1, L', .slice a2 k2 c2, .slice a1 k1 c1, by omega, by go_num, hset, (W5.out.perm (by rw [List.append_assoc, List.append_assoc]; exact List.Perm.append_left _ List.perm_append_comm)), hput, ⟨RR.out.upd ub (fun b e => by rw [e]; exact Nat.lt_succ_self _), RO.out.upd ub (fun b e => by rw [e]; exact Nat.lt_succ_self _), DJ.out⟩, by have h1 := LEN.out; have h2 := K0.out; have h3 := K1.out; simp only [List.length_append, List.length_cons, List.length_nil]; omega, by rw [show (w6.setCell ⟨b9, 0, none⟩ (.slice a2 k2 c2)).heap.size = w6.heap.size by simp]; exact K6.out⟩, by simp [intOf]; omega⟩
      · have em1 : (j : Int) % 2 = 1 := by omega
        have em2 : Int.tmod (j : Int) 2 = 1 := by rw [Int.tmod_eq_emod_of_nonneg (by omega)]; exact em1
        have d0 : (w5.alloc (.cells #[.int .u64 (x : Int)] 22)).cell? ⟨b9, 4, none⟩ = some (.slice a1 k1 c1) := (b5.alloc _).cell 4
        have d1 : w5.cell? ⟨b9, 4, none⟩ = some (.slice a1 k1 c1) := b5.cell 4
        clear hp b5
        go_wp2_with (at_builtin; refine wpList_append_vec (E := Elem.u64s) rfl (.tmp 56) (.tmp 58) 38 rfl 22 i0 (.int .u64 0) 8 Try.underlying38 hi hz0 hz1 hz2 rfl (.slice a1 k1 c1) (.slice (some ⟨w5.heap.size, 0, none⟩) 1 1) U1 [x] rfl rfl (R15.out.alloc _).vec (u64_oneAt w5 22 x _ rfl) ?_ ?_ ?_; (rw [K1.out]; simp only [maxLen, List.length_cons, List.length_nil]; omega); (rw [K1.out]; simp only [List.length_cons, List.length_nil]; omega); intro v2 w6 hv2 hu2 hin2; have hnb6 : ¬ In (.slice a1 k1 c1) b9 := (fun hb => by have := R15.out.far _ hb; omega); have b6 := (B5.out.alloc (.cells #[.int .u64 (x : Int)] 22)).upd hu2 hnb6; obtain ⟨a2, c2, rfl, hd1, hd2⟩ := hv2.slice'; obtain ⟨k2, hk2⟩ : ∃ k, (U1 ++ [x]).length = k := ⟨_, rfl⟩; rw [hk2] at hv2 hin2 hd1 ⊢; have hrr := (R15.out.alloc _).app (by rw [World.size_alloc]; have := K5.out; omega) hv2 hin2; have hro := (R05.out.alloc (.cells #[.int .u64 (x : Int)] 22)).upd' hu2 (fun b h1 h2 => HD.out b h1 h2); have hh6 := (H5.out.alloc (.cells #[.int .u64 (x : Int)] 22)).upd hu2 H5.out.low (fun b hb => by have h1 := R15.out.far b hb; have h2 := NB9.out; omega); have hk6 : b9 + 1 ≤ w6.heap.size := (by have h1 := hu2.size; rw [World.size_alloc] at h1; have h2 := K5.out; omega); have dj : ∀ b, In (.slice a2 k2 c2) b → ¬ In (.slice a0 k0 c0) b := (fun b h1 h2 => by rcases hin2 b h1 with h | h; exact HD.out b h2 h; (have h3 := (R05.out.vec.lt h2); rw [World.size_alloc] at h; omega)); have e0 : w6.cell? ⟨b9, 4, none⟩ = some (.slice a1 k1 c1) := b6.cell 4; have f0 : w6.frozen? ⟨b9, 4, none⟩ = false := b6.frozen 4; have B6 := Lib.hid b6; have RR := Lib.hid hrr; have RO := Lib.hid hro; have H6 := Lib.hid hh6; have K6 := Lib.hid hk6; have DJ := Lib.hid dj; have KL := Lib.hid hk2; clear b6 hv2 hu2 hin2 hrr hro hh6 hk6 dj hnb6 hk2)
        have hput := B6.out.put 4 (.slice a2 k2 c2)
        have hset := H6.out.setCell (a := ⟨b9, 4, none⟩) (by have := NB9.out; simp only; omega) (.slice a2 k2 c2)
        have ub := (Upd.refl (fun b => b = b9) w6).setCell (p := ⟨b9, 4, none⟩) (.inl rfl) (.slice a2 k2 c2)
        refine ⟨⟨j + 1, U0, U1 ++ [x], L', .slice a0 k0 c0, .slice a2 k2 c2, by omega, by go_num, hset, (by rw [← List.append_assoc]; exact W5.out), hput, ⟨RO.out.upd ub (fun b e => by rw [e]; exact Nat.lt_succ_self _), RR.out.upd ub (fun b e => by rw [e]; exact Nat.lt_succ_self _), (fun b h1 h2 => DJ.out b h2 h1)⟩, by have h1 := LEN.out; have h2 := K0.out; have h3 := K1.out; simp only [List.length_append, List.length_cons, List.length_nil]; omega, by rw [show (w6.setCell ⟨b9, 4, none⟩ (.slice a2 k2 c2)).heap.size = w6.heap.size by simp]; exact K6.out⟩, by simp [intOf]; omega⟩
    · obtain rfl : j = 30 := by omega
      have t2 : decide (((30 : Nat) : Int) < 30) = false := by decide
      have I2 : Hid (Posting w C pp p g O nb c b9 m (.int .i64 0) (.int .i64 0) wr) := Lib.hid ⟨0, U0, U1, [], L, fresh 1024 s 41 30, .slice a0 k0 c0, .slice a1 k1 c1, 0, 0, false, 0, 0, false, Nat.zero_le _, rfl, rfl, hh, HW.out, HB.out, ⟨R0.out, R1.out⟩, by rw [K0.out, K1.out]; exact LEN.out, ⟨Nat.le_refl _, fun _ => rfl, by decide⟩, ⟨Nat.le_refl _, fun _ => rfl, by decide⟩, Nat.zero_le _, HK.out⟩
      clear hh HW HB R0 R1 HD LEN HK K0 K1 hc0 hc0' hc1 hc1'
      go_wp2_with fail
      go_loopw [13, 65] (fun q i wr => Posting w C pp p g O nb c b9 m q i wr) (fun _ i _ => m - (intOf i).toNat)
      case atStart => exact I2.out
      case round =>
        clear I2
        obtain ⟨j, U0, U1, P, L, S, v0, v1, h0, t0, l0, h1, t1, l1, hj, rfl, rfl, hh, hw, hb, ⟨hr0, hr1⟩, hsum, kn0, kn1, hct, hk⟩ := hrel
        obtain ⟨a0, c0, rfl, hc0, hc0'⟩ := hr0.slice
        obtain ⟨a1, c1, rfl, hc1, hc1'⟩ := hr1.slice
        obtain ⟨k0, hk0⟩ : ∃ k, U0.length = k := ⟨_, rfl⟩
        obtain ⟨k1, hk1⟩ : ∃ k, U1.length = k := ⟨_, rfl⟩
        obtain ⟨kp, hkp⟩ : ∃ k, P.length = k := ⟨_, rfl⟩
        rw [hk0] at hr0 hc0 hb hsum
        rw [hk1] at hr1 hc1 hb hsum
        rw [hkp] at hsum ⊢
        have k30 : k0 ≤ 30 := by omega
        have k31 : k1 ≤ 30 := by omega
        have k3p : kp ≤ 30 := by omega
        have hgd := C.good hh.pg
        have h0b := kn0.2.2
        have h1b := kn1.2.2
        have t0b := kn0.1
        have t1b := kn1.1
        have t0u : t0 ≤ 18446744073709551615 := by omega
        have t1u : t1 ≤ 18446744073709551615 := by omega
        have GD := Lib.hid hgd; have HW := Lib.hid hw; have HB := Lib.hid hb; have R0 := Lib.hid hr0; have R1 := Lib.hid hr1; have SUM := Lib.hid hsum; have KN0 := Lib.hid kn0; have KN1 := Lib.hid kn1; have CT := Lib.hid hct; have HK := Lib.hid hk; have K0 := Lib.hid hk0; have K1 := Lib.hid hk1; have KP := Lib.hid hkp; have HH := Lib.hid hh
        clear hw hr0 hr1 hsum kn0 kn1 hct hk hk0 hk1 hkp hh hgd t0b t1b
        have m0 : wr.cell? ⟨b9, 0, none⟩ = some (.slice a0 k0 c0) := hb.cell 0
        have m1 : wr.cell? ⟨b9, 1, none⟩ = some (.int .u64 (h0 : Int)) := hb.cell 1
        have m2 : wr.cell? ⟨b9, 2, none⟩ = some (.int .u64 (t0 : Int)) := hb.cell 2
        have m3 : wr.cell? ⟨b9, 3, none⟩ = some (.bool l0) := hb.cell 3
        have m4 : wr.cell? ⟨b9, 4, none⟩ = some (.slice a1 k1 c1) := hb.cell 4
        have m5 : wr.cell? ⟨b9, 5, none⟩ = some (.int .u64 (h1 : Int)) := hb.cell 5
        have m6 : wr.cell? ⟨b9, 6, none⟩ = some (.int .u64 (t1 : Int)) := hb.cell 6
        have m7 : wr.cell? ⟨b9, 7, none⟩ = some (.bool l1) := hb.cell 7
        have f3 := hb.frozen 3
        have f7 := hb.frozen 7
        clear hb
        by_cases hjm : j < m
        · obtain ⟨a', cap', epl, _, _, _, hcl⟩ := HF.out.below (Nat.le_refl _) HH.out.below
          injection epl with ea en ec
          subst ec
          clear en
          obtain ⟨b2, off2, e3, x0⟩ := hcl j (by have := HM.out; omega)
          rw [← ea] at e3
          subst e3
          clear hcl ea
          obtain ⟨sd, hsd⟩ : ∃ s, l.getD j false = s := ⟨_, rfl⟩
          rw [hsd] at x0
          have q2 : decide ((j : Int) < (m : Int)) = true := decide_eq_true (by omega)
          have q3 : (0 : Int) ≤ (j : Int) := by omega
          have q4 : (j : Int) < (m : Int) := by omega
          clear hsd
          cases sd with
          | false =>
            by_cases hz : k0 = 0
            · have z1 : ((k0 : Int) == 0) = true := by rw [beq_iff_eq]; omega
              clear hz
              go_wp2_with fail
              exact ⟨⟨j + 1, U0, U1, P, L, S, .slice a0 k0 c0, .slice a1 k1 c1, h0, t0, l0, h1, t1, l1, by omega, by go_num, by rw [KP.out], HH.out, HW.out, HB.out, ⟨R0.out, R1.out⟩, by rw [K0.out, K1.out, KP.out]; exact SUM.out, KN0.out, KN1.out, Nat.le_succ_of_le CT.out, HK.out⟩, by simp [intOf]; omega⟩
            · have z1 : ((k0 : Int) == 0) = false := by rw [beq_eq_false_iff_ne]; omega
              cases l0 with
              | false =>
                clear hz
                go_wp2_with fail
                refine (has_cell HH.out).mono ?_; rintro e w6 ⟨rfl, hh, hb⟩
                have H6 := Lib.hid hh
                have B6 := Lib.hid (HB.out.grew hb); have R06 := Lib.hid (R0.out.grew hb); have R16 := Lib.hid (R1.out.grew hb)
                have K6 : Hid (b9 + 1 ≤ w6.heap.size) := Lib.hid (Nat.le_trans HK.out hb.size)
                clear hh hb
                go_wp2_with fail
                refine (has_load H6.out (by have := CT.out; omega)).mono ?_; rintro e w7 ⟨rfl, hh, hu⟩
                have hOb : ∀ b, O b → b < b9 + 1 := fun b hb => by have h1 := H6.out.hi b hb; have h2 := NB9.out; omega
                have b7 := H6.out.blk hu B6.out (by have := NB9.out; omega)
                have e1 : w7.cell? ⟨b9, 1, none⟩ = some (.int .u64 (h0 : Int)) := b7.cell 1
                have e2 : w7.cell? ⟨b9, 2, none⟩ = some (.int .u64 (t0 : Int)) := b7.cell 2
                have e3 : w7.cell? ⟨b9, 3, none⟩ = some (.bool false) := b7.cell 3
                have g1 := b7.frozen 1
                have g2 := b7.frozen 2
                have g3 := b7.frozen 3
                have H7 := Lib.hid hh; have B7 := Lib.hid b7; have R07 := Lib.hid (R06.out.upd hu hOb); have R17 := Lib.hid (R16.out.upd hu hOb)
                have K7 : Hid (b9 + 1 ≤ w7.heap.size) := Lib.hid (Nat.le_trans K6.out hu.size)
                have hcwb := (HW.out.word GD.out).1
                have WD := Lib.hid hcwb
                clear hh hu hOb b7 m0 m1 m2 m3 m4 m5 m6 m7 f3 f7 hcwb
                go_wp2_with fail
                have hput := ((B7.out.put 1 (.int .u64 (S.cw : Int))).put 2 (.int .u64 (S.ct : Int))).put 3 (.bool true)
                have hset := ((H7.out.setCell (a := ⟨b9, 1, none⟩) (by have := NB9.out; simp only; omega) (.int .u64 (S.cw : Int))).setCell (a := ⟨b9, 2, none⟩) (by have := NB9.out; simp only; omega) (.int .u64 (S.ct : Int))).setCell (a := ⟨b9, 3, none⟩) (by have := NB9.out; simp only; omega) (.bool true)
                have ub := (((Upd.refl (fun b => b = b9) w7).setCell (p := ⟨b9, 1, none⟩) (.inl rfl) (.int .u64 (S.cw : Int))).setCell (p := ⟨b9, 2, none⟩) (.inl rfl) (.int .u64 (S.ct : Int))).setCell (p := ⟨b9, 3, none⟩) (.inl rfl) (.bool true)
                go_roundw
                case rel =>
                  repeat apply Exists.intro
                  exact ⟨⟨j + 1, U0, U1, P, L, S.asked, .slice a0 k0 c0, .slice a1 k1 c1, S.cw, S.ct, true, h1, t1, l1, by omega, by go_num, by rw [KP.out], hset, HW.out.ask, hput, ⟨R07.out.upd ub (fun b e => by rw [e]; exact Nat.lt_succ_self _), R17.out.upd ub (fun b e => by rw [e]; exact Nat.lt_succ_self _)⟩, by rw [K0.out, K1.out, KP.out]; exact SUM.out, ⟨Nat.le_refl _, fun _ => rfl, WD.out⟩, KN1.out, Nat.le_succ_of_le CT.out, Nat.le_trans K7.out ub.size⟩, rfl⟩
                case measure => simp [intOf]; omega
              | true =>
                obtain ⟨x, hx⟩ : ∃ x, U0[0]? = some x := ⟨U0[0]'(by rw [K0.out]; omega), List.getElem?_eq_getElem _⟩
                obtain ⟨rest, hrest⟩ : ∃ rest, U0 = x :: rest := by
                  cases hU : U0 with
                  | nil => rw [hU] at hx; simp at hx
                  | cons y t => rw [hU] at hx; simp at hx; exact ⟨t, by rw [hx]⟩
                obtain ⟨bv, ov, rfl, _⟩ := R0.out.vec.seq.elem hx
                have y0 := R0.out.cell hx
                rw [Nat.add_zero] at y0
                have i0' : (0 : Int) < (k0 : Int) := by omega
                have i0'' : 0 < k0 := by omega
                have hperm : (U0 ++ U1).Perm (x :: (rest ++ U1)) := by rw [hrest]; exact List.Perm.refl _
                have hwx := HW.out.perm hperm
                have hbx := hwx.inU x (List.mem_cons_self ..)
                have hnx := hwx.ne.1 x (List.mem_cons_self ..)
                have hfx := hwx.fits GD.out (List.mem_cons_self ..)
                have hxb : x ≤ 1048576 := by have := GD.out.big; omega
                have hgv := given_blk GD.out hbx
                obtain ⟨sv, hsl, hin1, _, hvec1⟩ := cut_from (E := Elem.u64s) (P := Try.prog) 38 Try.underlying38 sizeU (some ⟨bv, ov, none⟩) k0 c0 1 (by omega) hc0
                have hsl1 : ∀ w, (Instr.slice 38 (.slice (some ⟨bv, ov, none⟩) k0 c0) (some (.int .i64 1)) none none).run Try.prog w = .ok sv w := hsl
                obtain ⟨av2, cv2, esv, hs1', hs2'⟩ := (hvec1 _ _ R0.out.vec).slice'
                have hsl2 : (U0.drop 1).length = k0 - 1 := by rw [List.length_drop, K0.out]
                rw [hsl2] at esv hs1'
                subst esv
                have VC1 := Lib.hid hvec1; have IN1 := Lib.hid hin1; have HX := Lib.hid hx; have HR := Lib.hid hrest; have WX := Lib.hid hwx; have BX := Lib.hid hbx; have NX := Lib.hid hnx; have FX := Lib.hid hfx; have GV := Lib.hid hgv
                have PST := Lib.hid (fun (w' : World) (h : Has C pp p g O nb c L S w') => has_post (a := x) (hd := h0) (t := t0) h (show x ≤ _ by omega) (show h0 ≤ _ by omega) t0u hnx.1 hnx.2.1 hgv (by have := CT.out; omega))
                have hOb : ∀ b, O b → b < b9 + 1 := fun b hb => by have h1 := HH.out.hi b hb; have h2 := NB9.out; omega
                have OB := Lib.hid hOb
                clear hsl hvec1 hin1 hx hrest hwx hbx hnx hfx hgv hperm hsl2 hz hOb
                by_cases htt : t0 = S.ct
                · have hpo : postP S x t0 = (S.wrote x, true) := if_pos htt
                  rw [hpo] at PST
                  have hhd := KN0.out.2.1 htt
                  have HD := Lib.hid hhd
                  clear htt hpo hhd
                  go_wp2_with fail
                  go_region_held3 (fun w' => w'.cell? ⟨b9, 0, none⟩ = some (.slice (some ⟨bv, ov, none⟩) k0 c0) ∧ w'.cell? ⟨bv, ov, none⟩ = some (.int .u64 (x : Int)) ∧ w'.cell? ⟨b9, 1, none⟩ = some (.int .u64 (h0 : Int)) ∧ w'.cell? ⟨b9, 2, none⟩ = some (.int .u64 (t0 : Int))) (first | go_keep | exact ⟨m0, y0, m1, m2⟩)
                    (first
                      | (go_at_call 20; (with_reducible refine (PST.out _ HH.out.drew).mono ?_); rintro e w6 ⟨rfl, hh, hu⟩; have hu' := Upd.after ((Below.refl wr.heap.size wr).drew) hu; have b6 := HH.out.blk hu' HB.out (by have := NB9.out; omega); have rr0 := R0.out.upd hu' OB.out; have rr1 := R1.out.upd hu' OB.out; have H6 := Lib.hid hh; have B6 := Lib.hid b6; have R06 := Lib.hid rr0; have R16 := Lib.hid rr1; have K6 : Hid (b9 + 1 ≤ w6.heap.size) := Lib.hid (Nat.le_trans HK.out hu'.size); have m0 : w6.cell? ⟨b9, 0, none⟩ = some (.slice (some ⟨bv, ov, none⟩) k0 c0) := b6.cell 0; have m1 : w6.cell? ⟨b9, 1, none⟩ = some (.int .u64 (h0 : Int)) := b6.cell 1; have m2 : w6.cell? ⟨b9, 2, none⟩ = some (.int .u64 (t0 : Int)) := b6.cell 2; have m3 : w6.cell? ⟨b9, 3, none⟩ = some (.bool true) := b6.cell 3; have y0 : w6.cell? ⟨bv, ov, none⟩ = some (.int .u64 (x : Int)) := (by have := rr0.cell HX.out; rwa [Nat.add_zero] at this); have g0 := b6.frozen 0; have g3 := b6.frozen 3; clear hh hu hu' b6 rr0 rr1))
                  have wkp : IntKind.i64.wrap ((kp : Int) + 1) = (kp : Int) + 1 := IntWalk.i64_in _ ⟨by omega, by omega⟩
                  go_wp2_with fail
                  have hput := (B6.out.put 0 (.slice av2 (k0 - 1) cv2)).put 3 (.bool false)
                  have hset := (H6.out.setCell (a := ⟨b9, 0, none⟩) (by have := NB9.out; simp only; omega) (.slice av2 (k0 - 1) cv2)).setCell (a := ⟨b9, 3, none⟩) (by have := NB9.out; simp only; omega) (.bool false)
                  have ub := ((Upd.refl (fun b => b = b9) w6).setCell (p := ⟨b9, 0, none⟩) (.inl rfl) (.slice av2 (k0 - 1) cv2)).setCell (p := ⟨b9, 3, none⟩) (.inl rfl) (.bool false)
                  have hrk : Row (.slice av2 (k0 - 1) cv2) (U0.drop 1) (b9 + 1) w6 := ⟨VC1.out _ _ R06.out.vec, fun b hb => R06.out.far b (IN1.out b hb)⟩
                  have hwp := WX.out.post GD.out
                  rw [← HD.out] at hwp
                  have hd1 : U0.drop 1 = rest := by rw [HR.out]; rfl
                  go_roundw
                  case rel =>
                    repeat apply Exists.intro
                    exact ⟨⟨j + 1, U0.drop 1, U1, x :: P, MemMath.put8 L x h0, S.wrote x, .slice av2 (k0 - 1) cv2, .slice a1 k1 c1, h0, t0, false, h1, t1, l1, by omega, by go_num, by (rw [List.length_cons, KP.out]; go_num), hset, by (rw [hd1]; exact hwp), hput, ⟨hrk.upd ub (fun b e => by rw [e]; exact Nat.lt_succ_self _), R16.out.upd ub (fun b e => by rw [e]; exact Nat.lt_succ_self _)⟩, by (rw [List.length_drop, List.length_cons, K0.out, K1.out, KP.out]; have := SUM.out; omega), KN0.out.wrote, KN1.out.wrote, Nat.succ_le_succ CT.out, Nat.le_trans K6.out ub.size⟩, rfl⟩
                  case measure => simp [intOf]; omega
                · have hpo : postP S x t0 = (S.asked, false) := if_neg htt
                  rw [hpo] at PST
                  clear htt hpo
                  go_wp2_with fail
                  go_region_held3 (fun w' => w'.cell? ⟨b9, 0, none⟩ = some (.slice (some ⟨bv, ov, none⟩) k0 c0) ∧ w'.cell? ⟨bv, ov, none⟩ = some (.int .u64 (x : Int)) ∧ w'.cell? ⟨b9, 1, none⟩ = some (.int .u64 (h0 : Int)) ∧ w'.cell? ⟨b9, 2, none⟩ = some (.int .u64 (t0 : Int))) (first | go_keep | exact ⟨m0, y0, m1, m2⟩)
                    (first
                      | (go_at_call 20; (with_reducible refine (PST.out _ HH.out.drew).mono ?_); rintro e w6 ⟨rfl, hh, hu⟩; have hu' := Upd.after ((Below.refl wr.heap.size wr).drew) hu; have b6 := HH.out.blk hu' HB.out (by have := NB9.out; omega); have rr0 := R0.out.upd hu' OB.out; have rr1 := R1.out.upd hu' OB.out; have H6 := Lib.hid hh; have B6 := Lib.hid b6; have R06 := Lib.hid rr0; have R16 := Lib.hid rr1; have K6 : Hid (b9 + 1 ≤ w6.heap.size) := Lib.hid (Nat.le_trans HK.out hu'.size); have m0 : w6.cell? ⟨b9, 0, none⟩ = some (.slice (some ⟨bv, ov, none⟩) k0 c0) := b6.cell 0; have m1 : w6.cell? ⟨b9, 1, none⟩ = some (.int .u64 (h0 : Int)) := b6.cell 1; have m2 : w6.cell? ⟨b9, 2, none⟩ = some (.int .u64 (t0 : Int)) := b6.cell 2; have m3 : w6.cell? ⟨b9, 3, none⟩ = some (.bool true) := b6.cell 3; have y0 : w6.cell? ⟨bv, ov, none⟩ = some (.int .u64 (x : Int)) := (by have := rr0.cell HX.out; rwa [Nat.add_zero] at this); have g0 := b6.frozen 0; have g3 := b6.frozen 3; clear hh hu hu' b6 rr0 rr1))
                  go_wp2_with fail
                  have hput := B6.out.put 3 (.bool false)
                  have hset := H6.out.setCell (a := ⟨b9, 3, none⟩) (by have := NB9.out; simp only; omega) (.bool false)
                  have ub := (Upd.refl (fun b => b = b9) w6).setCell (p := ⟨b9, 3, none⟩) (.inl rfl) (.bool false)
                  have hwl := HW.out.late GD.out (show x ∈ U0 ++ U1 from List.mem_append_left _ (List.mem_of_getElem? HX.out)) (Agree.put (x := h0) FX.out.2.2)
                  go_roundw
                  case rel =>
                    repeat apply Exists.intro
                    exact ⟨⟨j + 1, U0, U1, P, MemMath.put8 L x h0, S.asked, .slice (some ⟨bv, ov, none⟩) k0 c0, .slice a1 k1 c1, h0, t0, false, h1, t1, l1, by omega, by go_num, by rw [KP.out], hset, hwl, hput, ⟨R06.out.upd ub (fun b e => by rw [e]; exact Nat.lt_succ_self _), R16.out.upd ub (fun b e => by rw [e]; exact Nat.lt_succ_self _)⟩, by rw [K0.out, K1.out, KP.out]; exact SUM.out, KN0.out.ask, KN1.out.ask, Nat.le_succ_of_le CT.out, Nat.le_trans K6.out ub.size⟩, rfl⟩
                  case measure => simp [intOf]; omega
          | true =>
            by_cases hz : k1 = 0
            · have z1 : ((k1 : Int) == 0) = true := by rw [beq_iff_eq]; omega
              clear hz
              go_wp2_with fail
              exact ⟨⟨j + 1, U0, U1, P, L, S, .slice a0 k0 c0, .slice a1 k1 c1, h0, t0, l0, h1, t1, l1, by omega, by go_num, by rw [KP.out], HH.out, HW.out, HB.out, ⟨R0.out, R1.out⟩, by rw [K0.out, K1.out, KP.out]; exact SUM.out, KN0.out, KN1.out, Nat.le_succ_of_le CT.out, HK.out⟩, by simp [intOf]; omega⟩
            · have z1 : ((k1 : Int) == 0) = false := by rw [beq_eq_false_iff_ne]; omega
              cases l1 with
              | false =>
                clear hz
                go_wp2_with fail
                refine (has_cell HH.out).mono ?_; rintro e w6 ⟨rfl, hh, hb⟩
                have H6 := Lib.hid hh
                have B6 := Lib.hid (HB.out.grew hb); have R06 := Lib.hid (R0.out.grew hb); have R16 := Lib.hid (R1.out.grew hb)
                have K6 : Hid (b9 + 1 ≤ w6.heap.size) := Lib.hid (Nat.le_trans HK.out hb.size)
                clear hh hb
                go_wp2_with fail
                refine (has_load H6.out (by have := CT.out; omega)).mono ?_; rintro e w7 ⟨rfl, hh, hu⟩
                have hOb : ∀ b, O b → b < b9 + 1 := fun b hb => by have h1 := H6.out.hi b hb; have h2 := NB9.out; omega
                have b7 := H6.out.blk hu B6.out (by have := NB9.out; omega)
                have e1 : w7.cell? ⟨b9, 5, none⟩ = some (.int .u64 (h1 : Int)) := b7.cell 5
                have e2 : w7.cell? ⟨b9, 6, none⟩ = some (.int .u64 (t1 : Int)) := b7.cell 6
                have e3 : w7.cell? ⟨b9, 7, none⟩ = some (.bool false) := b7.cell 7
                have g1 := b7.frozen 5
                have g2 := b7.frozen 6
                have g3 := b7.frozen 7
                have H7 := Lib.hid hh; have B7 := Lib.hid b7; have R07 := Lib.hid (R06.out.upd hu hOb); have R17 := Lib.hid (R16.out.upd hu hOb)
                have K7 : Hid (b9 + 1 ≤ w7.heap.size) := Lib.hid (Nat.le_trans K6.out hu.size)
                have hcwb := (HW.out.word GD.out).1
                have WD := Lib.hid hcwb
                clear hh hu hOb b7 m0 m1 m2 m3 m4 m5 m6 m7 f3 f7 hcwb
                go_wp2_with fail
                have hput := ((B7.out.put 5 (.int .u64 (S.cw : Int))).put 6 (.int .u64 (S.ct : Int))).put 7 (.bool true)
                have hset := ((H7.out.setCell (a := ⟨b9, 5, none⟩) (by have := NB9.out; simp only; omega) (.int .u64 (S.cw : Int))).setCell (a := ⟨b9, 6, none⟩) (by have := NB9.out; simp only; omega) (.int .u64 (S.ct : Int))).setCell (a := ⟨b9, 7, none⟩) (by have := NB9.out; simp only; omega) (.bool true)
                have ub := (((Upd.refl (fun b => b = b9) w7).setCell (p := ⟨b9, 5, none⟩) (.inl rfl) (.int .u64 (S.cw : Int))).setCell (p := ⟨b9, 6, none⟩) (.inl rfl) (.int .u64 (S.ct : Int))).setCell (p := ⟨b9, 7, none⟩) (.inl rfl) (.bool true)
                go_roundw
                case rel =>
                  repeat apply Exists.intro
                  exact ⟨⟨j + 1, U0, U1, P, L, S.asked, .slice a0 k0 c0, .slice a1 k1 c1, h0, t0, l0, S.cw, S.ct, true, by omega, by go_num, by rw [KP.out], hset, HW.out.ask, hput, ⟨R07.out.upd ub (fun b e => by rw [e]; exact Nat.lt_succ_self _), R17.out.upd ub (fun b e => by rw [e]; exact Nat.lt_succ_self _)⟩, by rw [K0.out, K1.out, KP.out]; exact SUM.out, KN0.out, ⟨Nat.le_refl _, fun _ => rfl, WD.out⟩, Nat.le_succ_of_le CT.out, Nat.le_trans K7.out ub.size⟩, rfl⟩
                case measure => simp [intOf]; omega
              | true =>
                obtain ⟨x, hx⟩ : ∃ x, U1[0]? = some x := ⟨U1[0]'(by rw [K1.out]; omega), List.getElem?_eq_getElem _⟩
                obtain ⟨rest, hrest⟩ : ∃ rest, U1 = x :: rest := by
                  cases hU : U1 with
                  | nil => rw [hU] at hx; simp at hx
                  | cons y t => rw [hU] at hx; simp at hx; exact ⟨t, by rw [hx]⟩
                obtain ⟨bv, ov, rfl, _⟩ := R1.out.vec.seq.elem hx
                have y0 := R1.out.cell hx
                rw [Nat.add_zero] at y0
                have i0' : (0 : Int) < (k1 : Int) := by omega
                have i0'' : 0 < k1 := by omega
                have hperm : (U0 ++ U1).Perm (x :: (U0 ++ rest)) := by rw [hrest]; exact List.perm_middle
                have hwx := HW.out.perm hperm
                have hbx := hwx.inU x (List.mem_cons_self ..)
                have hnx := hwx.ne.1 x (List.mem_cons_self ..)
                have hfx := hwx.fits GD.out (List.mem_cons_self ..)
                have hxb : x ≤ 1048576 := by have := GD.out.big; omega
                have hgv := given_blk GD.out hbx
                obtain ⟨sv, hsl, hin1, _, hvec1⟩ := cut_from (E := Elem.u64s) (P := Try.prog) 38 Try.underlying38 sizeU (some ⟨bv, ov, none⟩) k1 c1 1 (by omega) hc1
                have hsl1 : ∀ w, (Instr.slice 38 (.slice (some ⟨bv, ov, none⟩) k1 c1) (some (.int .i64 1)) none none).run Try.prog w = .ok sv w := hsl
                obtain ⟨av2, cv2, esv, hs1', hs2'⟩ := (hvec1 _ _ R1.out.vec).slice'
                have hsl2 : (U1.drop 1).length = k1 - 1 := by rw [List.length_drop, K1.out]
                rw [hsl2] at esv hs1'
                subst esv
                have VC1 := Lib.hid hvec1; have IN1 := Lib.hid hin1; have HX := Lib.hid hx; have HR := Lib.hid hrest; have WX := Lib.hid hwx; have BX := Lib.hid hbx; have NX := Lib.hid hnx; have FX := Lib.hid hfx; have GV := Lib.hid hgv
                have PST := Lib.hid (fun (w' : World) (h : Has C pp p g O nb c L S w') => has_post (a := x) (hd := h1) (t := t1) h (show x ≤ _ by omega) (show h1 ≤ _ by omega) t1u hnx.1 hnx.2.1 hgv (by have := CT.out; omega))
                have hOb : ∀ b, O b → b < b9 + 1 := fun b hb => by have h1 := HH.out.hi b hb; have h2 := NB9.out; omega
                have OB := Lib.hid hOb
                clear hsl hvec1 hin1 hx hrest hwx hbx hnx hfx hgv hperm hsl2 hz hOb
                by_cases htt : t1 = S.ct
                · have hpo : postP S x t1 = (S.wrote x, true) := if_pos htt
                  rw [hpo] at PST
                  have hhd := KN1.out.2.1 htt
                  have HD := Lib.hid hhd
                  clear htt hpo hhd
                  go_wp2_with fail
                  go_region_held3 (fun w' => w'.cell? ⟨b9, 4, none⟩ = some (.slice (some ⟨bv, ov, none⟩) k1 c1) ∧ w'.cell? ⟨bv, ov, none⟩ = some (.int .u64 (x : Int)) ∧ w'.cell? ⟨b9, 5, none⟩ = some (.int .u64 (h1 : Int)) ∧ w'.cell? ⟨b9, 6, none⟩ = some (.int .u64 (t1 : Int))) (first | go_keep | exact ⟨m4, y0, m5, m6⟩)
                    (first
                      | (go_at_call 20; (with_reducible refine (PST.out _ HH.out.drew).mono ?_); rintro e w6 ⟨rfl, hh, hu⟩; have hu' := Upd.after ((Below.refl wr.heap.size wr).drew) hu; have b6 := HH.out.blk hu' HB.out (by have := NB9.out; omega); have rr0 := R0.out.upd hu' OB.out; have rr1 := R1.out.upd hu' OB.out; have H6 := Lib.hid hh; have B6 := Lib.hid b6; have R06 := Lib.hid rr0; have R16 := Lib.hid rr1; have K6 : Hid (b9 + 1 ≤ w6.heap.size) := Lib.hid (Nat.le_trans HK.out hu'.size); have m4 : w6.cell? ⟨b9, 4, none⟩ = some (.slice (some ⟨bv, ov, none⟩) k1 c1) := b6.cell 4; have m5 : w6.cell? ⟨b9, 5, none⟩ = some (.int .u64 (h1 : Int)) := b6.cell 5; have m6 : w6.cell? ⟨b9, 6, none⟩ = some (.int .u64 (t1 : Int)) := b6.cell 6; have m7 : w6.cell? ⟨b9, 7, none⟩ = some (.bool true) := b6.cell 7; have y0 : w6.cell? ⟨bv, ov, none⟩ = some (.int .u64 (x : Int)) := (by have := rr1.cell HX.out; rwa [Nat.add_zero] at this); have g0 := b6.frozen 4; have g3 := b6.frozen 7; clear hh hu hu' b6 rr0 rr1))
                  have wkp : IntKind.i64.wrap ((kp : Int) + 1) = (kp : Int) + 1 := IntWalk.i64_in _ ⟨by omega, by omega⟩
                  go_wp2_with fail
                  have hput := (B6.out.put 4 (.slice av2 (k1 - 1) cv2)).put 7 (.bool false)
                  have hset := (H6.out.setCell (a := ⟨b9, 4, none⟩) (by have := NB9.out; simp only; omega) (.slice av2 (k1 - 1) cv2)).setCell (a := ⟨b9, 7, none⟩) (by have := NB9.out; simp only; omega) (.bool false)
                  have ub := ((Upd.refl (fun b => b = b9) w6).setCell (p := ⟨b9, 4, none⟩) (.inl rfl) (.slice av2 (k1 - 1) cv2)).setCell (p := ⟨b9, 7, none⟩) (.inl rfl) (.bool false)
                  have hrk : Row (.slice av2 (k1 - 1) cv2) (U1.drop 1) (b9 + 1) w6 := ⟨VC1.out _ _ R16.out.vec, fun b hb => R16.out.far b (IN1.out b hb)⟩
                  have hwp := WX.out.post GD.out
                  rw [← HD.out] at hwp
                  have hd1 : U1.drop 1 = rest := by rw [HR.out]; rfl
                  go_roundw
                  case rel =>
                    repeat apply Exists.intro
                    exact ⟨⟨j + 1, U0, U1.drop 1, x :: P, MemMath.put8 L x h1, S.wrote x, .slice a0 k0 c0, .slice av2 (k1 - 1) cv2, h0, t0, l0, h1, t1, false, by omega, by go_num, by (rw [List.length_cons, KP.out]; go_num), hset, by (rw [hd1]; exact hwp), hput, ⟨R06.out.upd ub (fun b e => by rw [e]; exact Nat.lt_succ_self _), hrk.upd ub (fun b e => by rw [e]; exact Nat.lt_succ_self _)⟩, by (rw [List.length_drop, List.length_cons, K0.out, K1.out, KP.out]; have := SUM.out; omega), KN0.out.wrote, KN1.out.wrote, Nat.succ_le_succ CT.out, Nat.le_trans K6.out ub.size⟩, rfl⟩
                  case measure => simp [intOf]; omega
                · have hpo : postP S x t1 = (S.asked, false) := if_neg htt
                  rw [hpo] at PST
                  clear htt hpo
                  go_wp2_with fail
                  go_region_held3 (fun w' => w'.cell? ⟨b9, 4, none⟩ = some (.slice (some ⟨bv, ov, none⟩) k1 c1) ∧ w'.cell? ⟨bv, ov, none⟩ = some (.int .u64 (x : Int)) ∧ w'.cell? ⟨b9, 5, none⟩ = some (.int .u64 (h1 : Int)) ∧ w'.cell? ⟨b9, 6, none⟩ = some (.int .u64 (t1 : Int))) (first | go_keep | exact ⟨m4, y0, m5, m6⟩)
                    (first
                      | (go_at_call 20; (with_reducible refine (PST.out _ HH.out.drew).mono ?_); rintro e w6 ⟨rfl, hh, hu⟩; have hu' := Upd.after ((Below.refl wr.heap.size wr).drew) hu; have b6 := HH.out.blk hu' HB.out (by have := NB9.out; omega); have rr0 := R0.out.upd hu' OB.out; have rr1 := R1.out.upd hu' OB.out; have H6 := Lib.hid hh; have B6 := Lib.hid b6; have R06 := Lib.hid rr0; have R16 := Lib.hid rr1; have K6 : Hid (b9 + 1 ≤ w6.heap.size) := Lib.hid (Nat.le_trans HK.out hu'.size); have m4 : w6.cell? ⟨b9, 4, none⟩ = some (.slice (some ⟨bv, ov, none⟩) k1 c1) := b6.cell 4; have m5 : w6.cell? ⟨b9, 5, none⟩ = some (.int .u64 (h1 : Int)) := b6.cell 5; have m6 : w6.cell? ⟨b9, 6, none⟩ = some (.int .u64 (t1 : Int)) := b6.cell 6; have m7 : w6.cell? ⟨b9, 7, none⟩ = some (.bool true) := b6.cell 7; have y0 : w6.cell? ⟨bv, ov, none⟩ = some (.int .u64 (x : Int)) := (by have := rr1.cell HX.out; rwa [Nat.add_zero] at this); have g0 := b6.frozen 4; have g3 := b6.frozen 7; clear hh hu hu' b6 rr0 rr1))
                  go_wp2_with fail
                  have hput := B6.out.put 7 (.bool false)
                  have hset := H6.out.setCell (a := ⟨b9, 7, none⟩) (by have := NB9.out; simp only; omega) (.bool false)
                  have ub := (Upd.refl (fun b => b = b9) w6).setCell (p := ⟨b9, 7, none⟩) (.inl rfl) (.bool false)
                  have hwl := HW.out.late GD.out (show x ∈ U0 ++ U1 from List.mem_append_right _ (List.mem_of_getElem? HX.out)) (Agree.put (x := h1) FX.out.2.2)
                  go_roundw
                  case rel =>
                    repeat apply Exists.intro
                    exact ⟨⟨j + 1, U0, U1, P, MemMath.put8 L x h1, S.asked, .slice a0 k0 c0, .slice (some ⟨bv, ov, none⟩) k1 c1, h0, t0, l0, h1, t1, false, by omega, by go_num, by rw [KP.out], hset, hwl, hput, ⟨R06.out.upd ub (fun b e => by rw [e]; exact Nat.lt_succ_self _), R16.out.upd ub (fun b e => by rw [e]; exact Nat.lt_succ_self _)⟩, by rw [K0.out, K1.out, KP.out]; exact SUM.out, KN0.out.ask, KN1.out.ask, Nat.le_succ_of_le CT.out, Nat.le_trans K6.out ub.size⟩, rfl⟩
                  case measure => simp [intOf]; omega
        · have q2 : decide ((j : Int) < (m : Int)) = false := decide_eq_false (by omega)
          have hch := HW.out.chain GD.out
          have hg1 := has_gather HH.out hch.1 hch.2.1 (fun x hx => ⟨HW.out.inP x hx, HW.out.ne.2 x hx⟩) HW.out.ndU.2
          rw [KP.out] at hg1
          obtain ⟨u, hu⟩ : ∃ u, k0 + k1 = u := ⟨_, rfl⟩
          have huse : (gathP (gathP S P) []).used = u := by
            show S.used - P.length - 0 = u
            have h1 := HW.out.use
            rw [List.length_append, K0.out, K1.out] at h1
            omega
          have hsum := SUM.out
          have z1 : ((u : Int) == 30 - (kp : Int)) = true := by rw [beq_iff_eq]; omega
          have z2 : ((kp : Int) == (kp : Int)) = true := by simp
          have wk : IntKind.i64.wrap (30 - (kp : Int)) = 30 - (kp : Int) := IntWalk.i64_in _ ⟨by omega, by omega⟩
          have G1 := Lib.hid hg1; have HUS := Lib.hid huse
          clear hch hg1 hu huse hsum m0 m1 m2 m3 m4 m5 m6 m7 f3 f7
          go_wp2_with fail
          refine G1.out.mono ?_; rintro e w6 ⟨L6, rfl, hh, _, _⟩
          have hg2 := has_gather (P := []) hh (by
            show chainN L6 0 _ = some []
            unfold chainN
            exact rowF_zero _ _) (Nat.zero_le _) (by intro x hx; cases hx) List.nodup_nil
          have G2 := Lib.hid hg2
          clear hh hg2
          go_wp2_with fail
          refine G2.out.mono ?_; rintro e w7 ⟨L7, rfl, hh, _, _⟩
          have hus := has_used hh
          rw [HUS.out] at hus
          have US := Lib.hid hus
          clear hh hus
          go_wp2_with fail
          refine US.out.mono ?_; rintro e w8 ⟨rfl, hh, _⟩
          have H8 := Lib.hid hh
          clear hh
          go_wp2
          go_ret
          exact ⟨rfl, H8.out.below⟩
set_option maxRecDepth 100000 in
set_option maxHeartbeats 2000000 in
theorem walk_of (w : World) (C : PgC w) {a : Option Addr} {n cap : Nat} (l : List Bool) (h : FlagsAt w (.slice a n cap) l) (sz : Int) (hsw : (Lit.int .u8 sz).wf = true) :
    Calls Try.prog 7 #[.slice a n cap, .int .u8 sz] w fun e w' => e = .returned (.bool true) ∧ Below w.heap.size w w' := by
  obtain rfl := h.len
  by_cases hl : l.length ≤ 200
  · exact walk_short w C l h hl sz hsw
  have t0 : decide ((200 : Int) < (l.length : Int)) = true := decide_eq_true (by omega)
  obtain ⟨e1, hs1⟩ := u8_of hsw
  obtain ⟨A, hA⟩ : ∃ A, sz.toNat = A := ⟨_, rfl⟩
  rw [hA] at e1 hs1
  subst e1
  obtain ⟨len, hlen⟩ : ∃ v, l.length = v := ⟨_, rfl⟩
  rw [hlen] at t0 ⊢
  clear h hl hlen hsw hA
  go_enter Try.func7, Try.ntmps7
  go_wp2_with fail
  refine (alive_any _ C).mono ?_; rintro e w1 ⟨rfl, hb⟩
  have B1 := Lib.hid hb
  clear hb
  go_wp2_with fail
  refine (made_any w C A 40 hs1 (by decide) _ B1.out).mono ?_; rintro e w2 ⟨pp, p, g, O, nb, c, L0, rfl, hh, hl0, hnb⟩
  have H2 := Lib.hid hh
  clear hh hl0 hnb
  unfold runV
  go_wp2
  go_ret
  exact ⟨rfl, (H2.out.alloc _).below⟩
end Go.Proofs.Ytlnlipjnljbegaa.pagePosts
