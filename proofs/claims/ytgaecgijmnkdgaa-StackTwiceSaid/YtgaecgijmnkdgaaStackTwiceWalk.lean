/- The law StackTwice, walked (written by gen13.py). -/
import Derived.Test.YtgaecgijmnkdgaaAlive13
import Derived.Test.YtgaecgijmnkdgaaBytesIn
import Derived.Test.YtgaecgijmnkdgaaSame11
import Derived.Test.YtgaecgijmnkdgaaAt13
namespace Go.Proofs.Ytgaecgijmnkdgaa.stackTwice
open Go.RowKit StackMath
set_option linter.unusedVariables false

/-- Two stacks; the second one is empty. -/
def TwR (w : World) (s so n : Nat) (i : Value) (wr : World) : Prop :=
  ∃ (j : Nat) (S : SS), j ≤ n ∧ i = .int .i64 (j : Int) ∧ FS w s S [] wr ∧ S.n ≤ 2 * j ∧ FS w so s0 [] wr ∧ s ≠ so
def askS (S : SS) (k : Nat) : SS := ⟨S.L, S.B, S.t, S.n + k⟩
def PutR (w : World) (s n : Nat) (S : SS) (w3 : World) (i : Value) (wr : World) : Prop :=
  ∃ j : Nat, j ≤ n ∧ i = .int .i64 (j : Int) ∧ FS w s (askS S j) [] wr ∧ Upd (fun k => k = s) w3 wr
theorem fs_ask {w w' w2 : World} {s : Nat} {S S' : SS} (h : FS w s S [] w') (k : SK w2 s 0 S') (g : GoodS S') (u : Wrt (fun _ => False) (SPl s 0) w' w2) : FS w s S' [] w2 :=
  ⟨k, g, fun j x hx => by simp at hx, fun i j x y hx => by simp at hx, h.fs, h.below.trans (u.below (fun _ h => h.elim) (fun b c hc => by rw [hc.1]; exact h.fs) h.below.size)⟩
theorem fs_look {w w' : World} {s : Nat} {S : SS} (h : FS w s S [] w') (hm : ManyB S) :
    Calls Try.prog 22 #[.pointer (some ⟨s, 0, none⟩)] w' fun e w2 => e = .returned (.tuple #[.int .i64 (topI S.L), .int .u64 (S.t : Int)]) ∧ FS w s (askS S 1) [] w2 ∧ Upd (fun k => k = s) w' w2 :=
  (look_any w' h.sk h.g hm).mono fun e w2 ⟨h1, h2, h3⟩ => ⟨h1, fs_ask h h2 ⟨h.g.nd, h.g.lt, h.g.ch, h.g.bb, Nat.le_succ_of_le h.g.tn⟩ (h3.mono (fun _ h => h) (fun b i hc => .inr hc.spl)), h3.upd.mono (fun k hk => by rcases hk with x | ⟨i, x⟩; exact x.elim; exact x.1)⟩
theorem fs_put_there {w w' : World} {s : Nat} {S : SS} (h : FS w s S [] w') (hm : ManyB S) {p : Nat} (hp : p ∈ S.L) :
    Calls Try.prog 23 #[.pointer (some ⟨s, 0, none⟩), .int .i64 (p : Int), .int .i64 (topI S.L), .int .u64 (S.t : Int)] w' fun e w2 => e = .returned (.tuple #[.bool false, .int .i64 6]) ∧ FS w s S [] w2 ∧ Upd (fun k => k = s) w' w2 := by
  have ht := topI_le h.g.lt
  refine (put_any w' h.sk h.g hm (h.g.lt p hp) ht.1 ht.2 (Nat.le_refl _)).mono ?_
  rintro e w2 ⟨k, _⟩
  obtain ⟨h1, h2, h3⟩ := k hp
  exact ⟨h1, fs_ask h h2 h.g h3, h3.upd.mono (fun k hk => by rcases hk with x | ⟨i, x⟩; exact x.elim; exact x.1)⟩
set_option maxRecDepth 100000 in
set_option maxHeartbeats 4000000 in
theorem walk_short (w : World) {a : Option Addr} {n cap : Nat} (L : List Nat) (hB : BytesIn w a n L) (hl : n ≤ 64) :
    Calls Try.prog 8 #[.slice a n cap] w fun e w' => e = .returned (.bool true) ∧ Below w.heap.size w w' := by
  have HB := Lib.hid hB
  have t0 : decide ((64 : Int) < (n : Int)) = false := decide_eq_false (by omega)
  have ZS := zero_stack
  clear hB
  go_enter Try.func8, Try.ntmps8
  go_wp2_with fail
  refine (alive_any w).mono ?_; rintro e w1 ⟨rfl, hb⟩
  obtain ⟨W, hW, hf, hb2, hs2⟩ := fs_new (w := w) hb
  obtain ⟨V, hV, ho, hb3, hs3⟩ := fs_new (w := w) hf.below
  obtain ⟨s, hss⟩ : ∃ z, w1.heap.size = z := ⟨_, rfl⟩
  rw [hss] at hf hs2
  rw [hs2] at ho
  have I0 := Lib.hid (show TwR w s (s + 1) n (.int .i64 0) V from ⟨0, s0, Nat.zero_le _, rfl, hf.grew hb3, by decide, ho, by omega⟩)
  clear hf ho hb2 hb3 hs3 hb
  obtain ⟨so, hso⟩ : ∃ z, s + 1 = z := ⟨_, rfl⟩
  rw [hso] at hs2 I0
  clear hso
  go_wp2
  go_loopw [24] (fun i wr => TwR w s so n i wr) (fun i _ => n - (intOf i).toNat)
  case atStart => exact I0.out
  case round =>
    clear I0 hW hV hs2 hss
    obtain ⟨j, S, hj, rfl, hf, hn, ho, hne⟩ := hrel
    by_cases hjn : j < n
    · obtain ⟨b2, off2, ea, c0⟩ := HB.out.cell wr hf.below j hjn
      have hx8 := HB.out.le j hjn
      obtain ⟨x, hx⟩ : ∃ x, L.getD j 0 = x := ⟨_, rfl⟩
      rw [hx] at c0 hx8
      subst ea
      obtain ⟨p, hp⟩ : ∃ p, x % 64 = p := ⟨_, rfl⟩
      obtain ⟨em1, em2⟩ := mod_of hp
      have em1 : Int.tmod (x : Int) 64 = (p : Int) := em1
      have em2 : (x : Int) % 64 = (p : Int) := em2
      have hp64 : p < 64 := by omega
      have q2 : decide ((j : Int) < (n : Int)) = true := decide_eq_true (by omega)
      have q2' : decide (j < n) = true := decide_eq_true hjn
      have q3 : (0 : Int) ≤ (j : Int) := by omega
      have q4 : (j : Int) < (n : Int) := by omega
      have P := Lib.hid (fs_push hf hp64)
      have HM := Lib.hid (show S.n ≤ 1000000 by omega)
      have HN := Lib.hid hn; have HO := Lib.hid ho; have NE := Lib.hid hne
      have E := Lib.hid (push_ends S p)
      clear hf hn hp ho hne
      go_wp2_with fail
      refine P.out.mono ?_; rintro e w5 ⟨m, rfl, hf, hmlo, hbl⟩
      have SI := Lib.hid (so_zero hf 2)
      have O5 := Lib.hid (HO.out.grew hbl)
      have ML := Lib.hid (show so < m by have := HO.out.lt; omega)
      have MW := Lib.hid (show w.heap.size ≤ m by have := HO.out.below.size; omega)
      clear hf hbl P hmlo
      go_wp2
      go_loopg [] 2 (fun g wr => SoR w s S [] m (mPush p) w5 2 g wr)
      case atStart => exact SI.out
      case round =>
        clear SI
        obtain ⟨jj, hjj, ha, hw⟩ := hrel
        by_cases hjn : jj < 2
        · have C := Lib.hid (so_next E.out HM.out (by decide) ha hw hjn)
          clear ha hw
          go_wp2_with fail
          refine C.out.mono ?_; rintro e w7 ⟨rfl, hr⟩
          have NX := Lib.hid hr
          clear hr C
          go_wp2
          go_roundg (2 - 1 - jj)
          case measure => omega
          case rel => exact NX.out
        · have C := Lib.hid (so_stop E.out HM.out (by decide) ha hw (by omega : jj = 2))
          clear ha hw
          go_wp2_with fail
          refine C.out.mono ?_; rintro e w8 ⟨rfl, hf, hst⟩
          have h8 : FS w s (pushS S p) [] w8 := by have := hf.forget; rw [(push_two S p).2.2.1] at this; exact this
          have o8 : FS w so s0 [] w8 := O5.out.upd hst.upd (fun k hk => by
            rcases hk with e | ⟨c, e⟩
            · exact ⟨by rw [e]; exact MW.out, by have := ML.out; omega, fun x hx => by cases hx⟩
            · exact ⟨by rw [e.1]; exact h8.fs, by rw [e.1]; exact NE.out, fun x hx => by cases hx⟩)
          have NX := Lib.hid (show TwR w s so n (.int .i64 ((j + 1 : Nat) : Int)) w8 from ⟨j + 1, pushS S p, by omega, rfl, h8, by have := (pushS_n S p).2; have := HN.out; omega, o8, NE.out⟩)
          rw [show ((j + 1 : Nat) : Int) = (j : Int) + 1 by omega] at NX
          clear hf hst C h8 o8
          go_wp2
          go_roundw
          case rel => exact NX.out
          case measure => simp [intOf]; omega
    · obtain rfl : j = n := by omega
      have q2 : decide ((j : Int) < (j : Int)) = false := decide_eq_false (by omega)
      have HM := Lib.hid (show ManyB S by show S.n ≤ _; omega)
      have HN := Lib.hid (show S.n ≤ 500 by omega)
      have F := Lib.hid hf; have O := Lib.hid ho
      obtain ⟨sl, hsl⟩ : ∃ z, S.L.length = z := ⟨_, rfl⟩
      have hsl64 := hf.g.len
      rw [hsl] at hsl64
      have HSL := Lib.hid hsl
      have nn : ((S.n : Int) != (S.n : Int)) = false := by simp
      clear hf ho hn hj ZS hsl
      go_wp2_with fail
      refine (cellOf_any wr s 0).mono ?_; rintro e w2 ⟨rfl, k⟩; obtain rfl := k.symm; clear k
      go_wp2_with fail
      refine (fs_asked F.out HM.out _ _ rfl).mono ?_; rintro e w3 ⟨rfl, hf, hb⟩
      have F3 := Lib.hid hf; have O3 := Lib.hid (O.out.grew hb)
      clear hf hb
      go_wp2_with fail
      refine (fs_all F3.out HM.out).mono ?_; rintro e w4 ⟨a2, c2, rfl, hq, hf, hin, hb⟩
      rw [HSL.out] at hq hin ⊢
      have F4 := Lib.hid hf; have O4 := Lib.hid (O3.out.grew hb); have Q4 := Lib.hid hq
      have IN4 := Lib.hid (show ∀ k, In (.slice a2 sl c2) k → k ≠ s from fun k hk => by have := hin k hk; have := F3.out.lt; omega)
      clear hf hb hq hin
      go_wp2_with fail
      refine (cellOf_any w4 s 0).mono ?_; rintro e w2 ⟨rfl, k⟩; obtain rfl := k.symm; clear k
      go_wp2_with fail
      refine (fs_asked F4.out HM.out _ _ rfl).mono ?_; rintro e w5 ⟨rfl, hf, hb⟩
      have F5 := Lib.hid hf; have O5 := Lib.hid (O4.out.grew hb); have Q5 := Lib.hid (Q4.out.below (Nat.le_refl _) hb)
      clear hf hb
      go_wp2_with fail
      refine (fs_all O5.out (by decide)).mono ?_; rintro e w6 ⟨a6, c6, rfl, _, hf, _, hb⟩
      have O6 := Lib.hid hf; have F6 := Lib.hid (F5.out.grew hb); have Q6 := Lib.hid (Q5.out.below (Nat.le_refl _) hb)
      rw [show (s0.L.length : Nat) = 0 from rfl]
      clear hf hb
      go_wp2_with fail
      refine (cellOf_any w6 so 0).mono ?_; rintro e w2 ⟨rfl, k⟩; obtain rfl := k.symm; clear k
      have AO := fun t g hg => fs_asked O6.out (by decide) t g hg
      rw [show ((s0.n : Nat) : Int) = 0 from rfl] at AO
      have AO := Lib.hid AO
      go_wp2_with fail
      refine (AO.out _ _ rfl).mono ?_; rintro e w7 ⟨rfl, hf, hb⟩
      have f7 := F6.out.grew hb
      have Q7 := Lib.hid (Q6.out.below (Nat.le_refl _) hb)
      have I7 := Lib.hid (show PutR w s sl S w7 (.int .i64 0) w7 from ⟨0, Nat.zero_le _, rfl, f7, Upd.refl _ _⟩)
      clear hf hb f7 AO
      go_wp2
      go_loopw [60] (fun i wr => PutR w s sl S w7 i wr) (fun i _ => sl - (intOf i).toNat)
      case atStart => exact I7.out
      case round =>
        clear I7
        obtain ⟨t, ht, rfl, hf, hu⟩ := hrel
        have qr := Q7.out.upd hu (fun k hk => IN4.out k hk)
        by_cases htn : t < sl
        · obtain ⟨b3, off3, y, ea, hy, hym, d0⟩ := Vec.at13 qr (t := t) (by rw [toI_len, HSL.out]; exact htn)
          obtain ⟨b4, off4, y0, ea2, hy0, _, _⟩ := Vec.at13 qr (t := 0) (by rw [toI_len, HSL.out]; omega)
          subst ea
          obtain ⟨rfl, rfl⟩ : b3 = b4 ∧ off3 = off4 := by injection ea2 with e; injection e with e1 e2; exact ⟨e1, e2⟩
          obtain ⟨q, hq, rfl⟩ : ∃ q, q ∈ S.L ∧ (q : Int) = y := by
            unfold toI at hym; obtain ⟨q, h1, h2⟩ := List.mem_map.1 hym; exact ⟨q, h1, h2⟩
          have hy00 : y0 = topI S.L := by
            cases hSL : S.L with
            | nil => rw [hSL] at hq; cases hq
            | cons a t => rw [hSL] at hy0; unfold toI at hy0; simp at hy0; rw [← hy0]; rfl
          subst hy00
          obtain ⟨y0, hy00⟩ : ∃ z, topI S.L = z := ⟨_, rfl⟩
          have c9 : ∀ w9, Upd (fun k => k = s) w7 w9 → w9.cell? ⟨b3, off3, none⟩ = some (.int .i64 y0) := fun w9 hu9 => by
            obtain ⟨b5, off5, y5, ea5, hy5, _, d5⟩ := Vec.at13 (Q7.out.upd hu9 (fun k hk => IN4.out k hk)) (t := 0) (by rw [toI_len, HSL.out]; omega)
            injection ea5 with e; injection e with e1 e2
            subst e1 e2
            rw [hy0] at hy5; injection hy5 with hy5
            rw [← hy5, hy00] at d5
            simpa using d5
          have LK := Lib.hid (fs_look hf (show (askS S t).n ≤ _ by show S.n + t ≤ _; have := HN.out; omega))
          have C9 := Lib.hid c9; have HU := Lib.hid hu; have HQ := Lib.hid hq; have HY := Lib.hid hy00
          have yy : ((y0 : Int) != (y0 : Int)) = false := by simp
          have q2 : decide ((t : Int) < (sl : Int)) = true := decide_eq_true (by omega)
          have q2' : decide (t < sl) = true := decide_eq_true htn
          have q3 : (0 : Int) ≤ (t : Int) := by omega
          have q4 : (t : Int) < (sl : Int) := by omega
          have q5 : (0 : Int) < (sl : Int) := by omega
          have q6 : 0 < sl := by omega
          clear hf hu hy hym hy0 ea2 qr hq c9 hy00
          go_wp2_with fail
          refine LK.out.mono ?_; rintro e w9 ⟨rfl, hf, hu⟩
          rw [show topI (askS S t).L = y0 from HY.out]
          have PT := fs_put_there hf (show (askS (askS S t) 1).n ≤ _ by show S.n + t + 1 ≤ _; have := HN.out; omega) (p := q) HQ.out
          rw [show topI (askS (askS S t) 1).L = y0 from HY.out] at PT
          have PT := Lib.hid PT
          have U9 := Lib.hid (HU.out.trans hu)
          clear hf hu LK
          go_wp2_with fail
          refine PT.out.mono ?_; rintro e w10 ⟨rfl, hf, hu⟩
          have u10 := U9.out.trans hu
          have d9 := C9.out w10 u10
          have NX := Lib.hid (show PutR w s sl S w7 (.int .i64 ((t + 1 : Nat) : Int)) w10 from ⟨t + 1, by omega, rfl, hf, u10⟩)
          rw [show ((t + 1 : Nat) : Int) = (t : Int) + 1 by omega] at NX
          clear hf hu u10 PT
          go_wp2
          go_roundw
          case rel => exact NX.out
          case measure => simp [intOf]; omega
        · obtain rfl : t = sl := by omega
          have q2 : decide ((t : Int) < (t : Int)) = false := decide_eq_false (by omega)
          have A := Lib.hid (fs_all hf (show (askS S t).n ≤ _ by show S.n + t ≤ _; have := HN.out; omega))
          have QR := Lib.hid qr
          clear hf hu qr
          go_wp2_with fail
          refine A.out.mono ?_; rintro e w9 ⟨a9, c9, rfl, hq, hf, _, hb⟩
          rw [show (askS S t).L.length = t from HSL.out] at hq ⊢
          have SM := same11_any w9 hq (QR.out.below (Nat.le_refl _) hb) (by omega) (by omega)
          rw [decide_eq_true (show toI (askS S t).L = toI S.L from rfl)] at SM
          have SM := Lib.hid SM; have F9 := Lib.hid hf
          clear hq hf hb A
          go_wp2_with fail
          refine SM.out.mono ?_; rintro e w10 ⟨rfl, hb⟩
          have B10 := Lib.hid (F9.out.grew hb).below
          clear hb
          go_wp2
          go_ret
          exact ⟨rfl, B10.out⟩
theorem walk (w : World) {a : Option Addr} {n cap : Nat} (l : List Int) (h : NumsAt w .u8 (.slice a n cap) l) :
    Calls Try.prog 8 #[.slice a n cap] w fun e w' => e = .returned (.bool true) ∧ Below w.heap.size w w' := by
  obtain ⟨L, hB⟩ := h.bytesIn
  by_cases hl : n ≤ 64
  · exact walk_short w L hB hl
  · have t0 : decide ((64 : Int) < (n : Int)) = true := decide_eq_true (by omega)
    have hm := hB.max
    clear hB h hl
    go_enter Try.func8, Try.ntmps8
    go_wp2_with fail
    refine (alive_any w).mono ?_; rintro e w1 ⟨rfl, hb⟩
    have B1 := Lib.hid hb
    clear hb
    go_wp2
    go_ret
    exact ⟨rfl, B1.out⟩
end Go.Proofs.Ytgaecgijmnkdgaa.stackTwice
