/- The law ArenaLowest, walked. -/
import Derived.Test.YtnkahcfkbpbhiaaArena6
import Derived.Test.YtnkahcfkbpbhiaaReads
namespace Go.Proofs.Ytnkahcfkbpbhiaa.arenaLowest
open Go.RowKit ArenaMath
set_option linter.unusedVariables false

theorem clamp (y : Int) : ∃ (z : Int) (m : Nat), (if (9 : Int) < y then 9 else y) = z ∧ (if z > 1 then z else 1) = (m : Int) ∧ 1 ≤ m ∧ m ≤ 9 := by
  refine ⟨_, (if (if (9 : Int) < y then 9 else y) > 1 then (if (9 : Int) < y then 9 else y) else 1).toNat, rfl, ?_, ?_, ?_⟩ <;> split <;> (first | omega | (split <;> omega))
theorem total_le {S : Nat} {l : List (Nat × Nat)} (h : Ok S l) : total l ≤ S := by
  have : ∀ (l : List (Nat × Nat)) (lo : Nat), l.Pairwise (fun x y => x.1 + x.2 ≤ y.1) → (∀ x ∈ l, lo ≤ x.1 ∧ x.1 + x.2 ≤ S) → lo ≤ S → lo + total l ≤ S := by
    intro l
    induction l with
    | nil => intro lo _ _ hlo; simpa [total] using hlo
    | cons x t ih =>
      intro lo hp hx hlo
      rw [List.pairwise_cons] at hp
      have h1 := hx x (by simp)
      have := ih (x.1 + x.2) hp.2 (fun y hy => ⟨hp.1 y hy, (hx y (by simp [hy])).2⟩) h1.2
      rw [total_cons]; omega
  have := this l 0 h.1 (fun x hx => ⟨Nat.zero_le _, (h.2 x hx).2⟩) (Nat.zero_le _)
  omega
/-- What Reserve answers where nothing was told, and all may be given. -/
theorem reserve_free {s : St} (hg : ArenaMath.Good s) (hS : s.S = 64) (hl : s.lim = 64) (hT : s.T = []) {m : Nat} (h1 : 1 ≤ m) (h2 : m ≤ 64) :
    (∀ a, spot 64 s.l m = some a → (reserve s m).1 = (a : Int) ∧ (reserve s m).2.1 = 0) ∧ (spot 64 s.l m = none → (reserve s m).2.1 = 4) ∧ (reserve s m).2.2.T = [] := by
  have hd : s.T.headD false = false := by rw [hT]; rfl
  cases hs : spot 64 s.l m with
  | none =>
    have := reserve_none (s := s) h1 (by omega) (by rw [hS]; exact hs)
    rw [this]
    exact ⟨fun a h => (by cases h), fun _ => rfl, by simp [St.no, hT]⟩
  | some a =>
    obtain ⟨g1, g2, _⟩ := spot_some hs
    have ho : Ok 64 s.l := by have := hg.ok; rwa [hS] at this
    have ht := total_le (ho.put g2 h1 g1)
    rw [total_put ho g2 h1] at ht
    have := reserve_some (s := s) h1 (by omega) hd (by omega) (by rw [hS]; exact hs)
    rw [this]
    exact ⟨fun b h => (by injection h with h; subst h; exact ⟨rfl, rfl⟩), fun h => (by cases h), by simp [St.give, hT]⟩
theorem release_T (s : St) (a : Int) : (release s a).2.T = s.T := by unfold release; split <;> rfl
def Acting (w : World) (q len : Nat) (i : Value) (wr : World) : Prop := ∃ k : Nat, k ≤ len ∧ i = .int .i64 (k : Int) ∧ ∃ s : St, s.S = 64 ∧ s.lim = 64 ∧ s.T = [] ∧ s.r ≤ k ∧ Lives w q s wr
def Wanting (w : World) (q : Nat) (s : St) (v : Value) (l : List (Nat × Nat)) (m : Nat) (i : Value) (wr : World) : Prop :=
  ∃ a : Nat, a + m ≤ 65 ∧ i = .int .i64 (a : Int) ∧ (∀ b, b < a → ¬ clear l b m) ∧ Side w q s v l wr
def Meeting (w : World) (q : Nat) (s : St) (v : Value) (l : List (Nat × Nat)) (a m : Nat) (mt i : Value) (wi : World) : Prop :=
  ∃ j : Nat, j ≤ l.length ∧ mt = .bool (meetsTo l a m j) ∧ i = .int .i64 (j : Int) ∧ Side w q s v l wi

set_option maxRecDepth 100000 in
set_option maxHeartbeats 4000000 in
theorem walk_short (w : World) (a : Option Addr) (len cap : Nat) (F : Nat → Nat → Value) (h : Recs w (.slice a len cap) [.num .i64, .num .i64, .flags] len F) (hl : len ≤ 100) :
    Calls Try.prog 8 #[.slice a len cap] w fun e w' => e = .returned (.bool true) ∧ Below w.heap.size w w' := by
  have H := Lib.hid h
  have t0 : decide ((100 : Int) < (len : Int)) = false := decide_eq_false (by omega)
  clear h
  go_enter Try.func8, Try.ntmps8
  go_wp2_with fail
  refine (alive_any _).mono ?_; rintro e w1 ⟨rfl, hb⟩
  have B1 := Lib.hid hb
  clear hb
  go_wp2_with fail
  refine (lives_new 64 64 (by decide) (by decide) (by decide) B1.out).mono ?_; rintro e w2 ⟨q, rfl, hs⟩
  have S2 := Lib.hid hs
  clear hs
  go_wp2_with fail
  clear t0
  go_loopw [32] (fun i wr => Acting w q len i wr) (fun i _ => len - (intOf i).toNat)
  case atStart => exact ⟨0, Nat.zero_le _, rfl, _, rfl, rfl, rfl, Nat.zero_le _, S2.out⟩
  case round =>
    obtain ⟨k, hk2, rfl, s, es, el, et, er, hs⟩ := hrel
    have S4 := Lib.hid hs
    have E4 := Lib.hid (And.intro es (And.intro el (And.intro et er)))
    have hsr : s.r ≤ 1000000000000 := by omega
    clear hs es el et er
    by_cases hlt : k < len
    · obtain ⟨b, off, x, y, A, m0, c, lf, rfl, c1, c2, c3, hfl, hx, hy⟩ := (H.out.below (Nat.le_refl _) S4.out.below).act hlt
      clear hfl hx hy
      by_cases hx1 : x = 1
      · have t1 : (x == 1) = true := by rw [beq_iff_eq]; exact hx1
        have HX := Lib.hid hx1
        have HR := (S4.out.alloc (.cells #[.int .i64 x, .int .i64 y, .slice A m0 c] 33)).release y
        have hsame := release_same s y
        have hT := release_T s y
        obtain ⟨s2, hs2⟩ : ∃ s2, (release s y).2 = s2 := ⟨_, rfl⟩
        rw [hs2] at HR hsame hT
        have E5 : Hid (s2.S = 64 ∧ s2.lim = 64 ∧ s2.T = [] ∧ s2.r ≤ k + 1) := Lib.hid ⟨hsame.1.trans E4.out.1, hsame.2.1.trans E4.out.2.1, hT.trans E4.out.2.2.1, by have := E4.out.2.2.2; have := hsame.2.2; omega⟩
        have HR := Lib.hid HR
        clear hx1 hsame hT hs2
        go_wp2_with fail
        refine HR.out.mono ?_; rintro e w5 ⟨rfl, hs⟩
        have S5 := Lib.hid hs
        clear hs
        go_wp2
        go_roundw
        case rel => exact ⟨k + 1, by omega, by go_num, s2, E5.out.1, E5.out.2.1, E5.out.2.2.1, E5.out.2.2.2, S5.out⟩
        case measure => simp [intOf]; omega
      · have t1 : (x == 1) = false := by rw [beq_eq_false_iff_ne]; exact hx1
        obtain ⟨z, m, hz, hm, hm1, hm9⟩ := clamp y
        have hmin : ∀ w, (Builtin.min_ #[3, 3] 3 #[.int .i64 y, .int .i64 9]).run Try.prog w = .ok (.int .i64 z) w := fun w => by rw [run_min_int2, hz]
        have hmax : ∀ w, (Builtin.max_ #[3, 3] 3 #[.int .i64 1, .int .i64 z]).run Try.prog w = .ok (.int .i64 (m : Int)) w := fun w => by rw [run_max_int2, hm]
        obtain ⟨bb, hbb⟩ : ∃ bb, wr.heap.size = bb := ⟨_, rfl⟩
        have hbx : Blk (wr.alloc (.cells #[.int .i64 x, .int .i64 y, .slice A m0 c] 33)) bb 33 #[.int .i64 x, .int .i64 y, .slice A m0 c] := by rw [← hbb]; exact Blk.new wr _ _
        have BX := Lib.hid hbx
        clear hx1 hz hm hbx
        go_wp2_with fail
        refine (S4.out.alloc (.cells #[.int .i64 x, .int .i64 y, .slice A m0 c] 33)).listed.mono ?_; rintro e w5 ⟨v, rfl, hs, hb⟩
        obtain ⟨va, vcap, rfl, hvl, hvc⟩ := hs.vec.shape
        have d1 : w5.cell? ⟨bb, 1, none⟩ = some (.int .i64 y) := Blk.cell (cs := #[.int .i64 x, .int .i64 y, .slice A m0 c]) ((hb.block bb BX.out.lt).trans BX.out) 1
        have HR := hs.reserve (m : Int) hsr
        have hgd := hs.lives.good
        have hfree := reserve_free hgd E4.out.1 E4.out.2.1 E4.out.2.2.1 hm1 (show m ≤ 64 by omega)
        have hsame := reserve_same s (m : Int)
        have hll : s.l.length ≤ 64 := by have := length_le_total hgd.ok; have := hgd.sum; have := E4.out.2.1; omega
        obtain ⟨A', hA⟩ : ∃ A', (reserve s (m : Int)).1 = A' := ⟨_, rfl⟩
        obtain ⟨E', hE⟩ : ∃ E', (reserve s (m : Int)).2.1 = E' := ⟨_, rfl⟩
        obtain ⟨s2, hs2⟩ : ∃ s2, (reserve s (m : Int)).2.2 = s2 := ⟨_, rfl⟩
        rw [hA, hE, hs2] at HR hfree
        rw [hs2] at hsame
        have E6 : Hid (s2.S = 64 ∧ s2.lim = 64 ∧ s2.T = [] ∧ s2.r ≤ k + 1) := Lib.hid ⟨hsame.1.trans E4.out.1, hsame.2.1.trans E4.out.2.1, hfree.2.2, by have := E4.out.2.2.2; have := hsame.2.2; omega⟩
        have HQ := Lib.hid hfree
        have HR := Lib.hid HR
        obtain ⟨l, hl'⟩ : ∃ l, s.l = l := ⟨_, rfl⟩
        rw [hl'] at HR HQ hll hvl ⊢
        have OKL : Hid (Ok 64 l) := Lib.hid (by rw [← hl', ← E4.out.1]; exact hgd.ok)
        have HBB := Lib.hid hbb
        clear c1 c2 c3 hs hb hgd hfree hsame hA hE hs2 hl'
        try rw [hbb]
        clear hbb
        go_wp2_with fail
        refine HR.out.mono ?_; rintro e w6 ⟨rfl, hs⟩
        have S6 := Lib.hid hs
        clear hs d1 hmin hmax
        go_wp2
        go_loopw [11] (fun i wi => Wanting w q s2 (.slice va l.length vcap) l m i wi) (fun i _ => 65 - (intOf i).toNat)
        case atStart => exact ⟨0, by omega, rfl, fun b hb => by omega, S6.out⟩
        case round =>
          obtain ⟨a, ha, rfl, hno, hs⟩ := hrel
          have S7 := Lib.hid hs; have NO := Lib.hid hno
          clear hs hno
          by_cases ham : a + m ≤ 64
          · have t2 : decide ((a : Int) + (m : Int) ≤ 64) = true := decide_eq_true (by omega)
            go_wp2
            go_loopw [12, 61] (fun mt i wi => Meeting w q s2 (.slice va l.length vcap) l a m mt i wi) (fun mt i _ => l.length - (intOf i).toNat)
            case atStart => exact ⟨0, Nat.zero_le _, by rw [meetsTo_zero], rfl, S7.out⟩
            case round =>
              obtain ⟨j, hj, rfl, rfl, hs⟩ := hrel
              have S8 := Lib.hid hs
              clear hs
              by_cases hjl : j < l.length
              · obtain ⟨⟨x1, x2⟩, hx⟩ : ∃ x, l[j]? = some x := ⟨l[j], List.getElem?_eq_getElem hjl⟩
                obtain ⟨b2, off2, rfl, hcell⟩ := S8.out.vec.seq.elem hx
                have d0 := hcell 0 (.int .i64 (x1 : Int)) rfl
                have d1 := hcell 1 (.int .i64 (x2 : Int)) rfl
                simp only [Elem.pairs, Nat.add_zero] at d0 d1
                have hst := meetsTo_step (a := a) (k := m) hx
                simp only at hst
                have xb : x1 ≤ 1000000 ∧ x2 ≤ 1000000 := by have := OKL.out.2 (x1, x2) (List.mem_of_getElem? hx); simp only at this; omega
                obtain ⟨xb1, xb2⟩ := xb
                obtain ⟨c0, hc0⟩ : ∃ c0, meetsTo l a m j = c0 := ⟨_, rfl⟩
                obtain ⟨p1, hp1⟩ : ∃ p1, decide (a < x1 + x2) = p1 := ⟨_, rfl⟩
                obtain ⟨p2, hp2⟩ : ∃ p2, decide (x1 < a + m) = p2 := ⟨_, rfl⟩
                rw [hc0, hp1, hp2] at hst
                rw [hc0]
                have q1 : decide ((a : Int) < (x1 : Int) + (x2 : Int)) = p1 := by rw [← hp1]; exact decide_eq_decide.2 (by omega)
                have q2 : decide ((x1 : Int) < (a : Int) + (m : Int)) = p2 := by rw [← hp2]; exact decide_eq_decide.2 (by omega)
                have HS := Lib.hid hst
                clear hx hcell hst hc0 hp1 hp2
                cases c0 with
                | true =>
                  clear q1 q2
                  go_wp2
                  go_roundw
                  case rel => exact ⟨j + 1, by omega, by rw [HS.out]; rfl, by go_num, S8.out.alloc _⟩
                  case measure => simp [intOf]; omega
                | false =>
                  cases p1 with
                  | true =>
                    go_wp2
                    go_roundw
                    case rel => exact ⟨j + 1, by omega, by rw [HS.out]; first | rfl | simp [q2], by go_num, S8.out.alloc _⟩
                    case measure => simp [intOf]; omega
                  | false =>
                    clear q2
                    go_wp2
                    go_roundw
                    case rel => exact ⟨j + 1, by omega, by rw [HS.out]; rfl, by go_num, S8.out.alloc _⟩
                    case measure => simp [intOf]; omega
              · obtain rfl : j = l.length := by omega
                obtain ⟨c0, hc0⟩ : ∃ c0, meetsTo l a m l.length = c0 := ⟨_, rfl⟩
                rw [hc0]
                have HC := Lib.hid hc0
                clear hc0
                cases c0 with
                | true =>
                  go_wp2
                  go_roundw
                  case rel => exact ⟨a + 1, by omega, by go_num, (fun b hb => by
                    rcases Nat.lt_or_ge b a with h | h
                    · exact NO.out b h
                    · obtain rfl : b = a := by omega
                      intro hc; rw [← meetsTo_all, HC.out] at hc; cases hc), S8.out⟩
                  case measure => simp [intOf]; omega
                | false =>
                  have hres := HQ.out.1 a (spot_of hm1 ham (meetsTo_all.1 HC.out) NO.out)
                  obtain ⟨rfl, rfl⟩ := hres
                  have t4 : ((a : Int) == (a : Int)) = true := by simp
                  go_wp2
                  go_roundw
                  case rel => exact ⟨k + 1, by omega, by go_num, s2, E6.out.1, E6.out.2.1, E6.out.2.2.1, E6.out.2.2.2, S8.out.lives⟩
                  case measure => simp [intOf]; omega
          · have t2 : decide ((a : Int) + (m : Int) ≤ 64) = false := decide_eq_false (by omega)
            have hres := HQ.out.2.1 (spot_no fun b hb hc => NO.out b (by omega) hc)
            subst hres
            go_wp2
            go_roundw
            case rel => exact ⟨k + 1, by omega, by go_num, s2, E6.out.1, E6.out.2.1, E6.out.2.2.1, E6.out.2.2.2, S7.out.lives⟩
            case measure => simp [intOf]; omega
    · obtain rfl : k = len := by omega
      go_wp2
      go_ret
      exact ⟨rfl, S4.out.below⟩
theorem walk_long (w : World) (a : Option Addr) (len cap : Nat) (hl : 100 < len) :
    Calls Try.prog 8 #[.slice a len cap] w fun e w' => e = .returned (.bool true) ∧ Below w.heap.size w w' := by
  have t0 : decide ((100 : Int) < (len : Int)) = true := decide_eq_true (by omega)
  go_enter Try.func8, Try.ntmps8
  go_wp2_with fail
  refine (alive_any _).mono ?_; rintro e w1 ⟨rfl, hb⟩
  have B1 := Lib.hid hb
  clear hb
  go_wp2_with fail
  refine (lives_new 64 64 (by decide) (by decide) (by decide) B1.out).mono ?_; rintro e w2 ⟨q, rfl, hs⟩
  have S2 := Lib.hid hs
  clear hs
  go_wp2
  go_ret
  exact ⟨rfl, S2.out.below⟩
theorem walk (w : World) {A : Option Addr} {n cap : Nat} (len : Nat) (F : Nat → Nat → Value) (h : Recs w (.slice A n cap) [.num .i64, .num .i64, .flags] len F) :
    Calls Try.prog 8 #[.slice A n cap] w fun e w' => e = .returned (.bool true) ∧ Below w.heap.size w w' := by
  obtain ⟨rfl, _, _⟩ := h.len
  by_cases hl : n ≤ 100
  · exact walk_short w A n cap F h hl
  · exact walk_long w A n cap (by omega)
end Go.Proofs.Ytnkahcfkbpbhiaa.arenaLowest
