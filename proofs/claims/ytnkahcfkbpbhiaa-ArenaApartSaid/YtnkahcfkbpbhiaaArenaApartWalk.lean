/- The law ArenaApart, walked. -/
import Derived.Test.YtnkahcfkbpbhiaaArena5
import Derived.Test.YtnkahcfkbpbhiaaReads
namespace Go.Proofs.Ytnkahcfkbpbhiaa.arenaApart
open Go.RowKit ArenaMath
set_option linter.unusedVariables false

/-- Where the first j regions end. -/
def ends (l : List (Nat × Nat)) : Nat → Nat
  | 0 => 0
  | j + 1 => (l.getD j (0, 0)).1 + (l.getD j (0, 0)).2
theorem ends_step {S : Nat} {l : List (Nat × Nat)} (h : Ok S l) {j x1 x2 : Nat} (hx : l[j]? = some (x1, x2)) : ends l j ≤ x1 ∧ 1 ≤ x2 ∧ x1 + x2 ≤ S ∧ ends l (j + 1) = x1 + x2 ∧ total (l.take (j + 1)) = total (l.take j) + x2 := by
  obtain ⟨hj, e⟩ := List.getElem?_eq_some_iff.1 hx
  have hm := h.2 (x1, x2) (e ▸ List.getElem_mem hj)
  refine ⟨?_, hm.1, hm.2, ?_, ?_⟩
  · cases j with
    | zero => exact Nat.zero_le _
    | succ i =>
      have hp := (List.pairwise_iff_getElem.1 h.1) i (i + 1) (by omega) hj (by omega)
      rw [e] at hp
      simp only [ends, List.getD_eq_getElem?_getD, List.getElem?_eq_getElem (show i < l.length by omega), Option.getD_some]
      exact hp
  · simp [ends, List.getD_eq_getElem?_getD, hx]
  · rw [List.take_add_one, hx, total_append]
    simp [total]
theorem total_take_le {S : Nat} {l : List (Nat × Nat)} (h : Ok S l) (j : Nat) : total (l.take j) ≤ total l := by
  have : total l = total (l.take j) + total (l.drop j) := by rw [← total_append, List.take_append_drop]
  omega
def Acting (w : World) (q n kk len : Nat) (i : Value) (wr : World) : Prop := ∃ k : Nat, k ≤ len ∧ i = .int .i64 (k : Int) ∧ ∃ s : St, s.S = n ∧ s.lim = kk ∧ s.r ≤ k ∧ Lives w q s wr
def Looking (w : World) (q : Nat) (s : St) (l : List (Nat × Nat)) (va : Option Addr) (vcap : Nat) (sm en i : Value) (wi : World) : Prop :=
  ∃ j : Nat, j ≤ l.length ∧ sm = .int .i64 ((total (l.take j) : Nat) : Int) ∧ en = .int .i64 ((ends l j : Nat) : Int) ∧ i = .int .i64 (j : Int) ∧ Lives w q s wi ∧ Vec Elem.pairs wi (.slice va l.length vcap) l

set_option maxRecDepth 100000 in
set_option maxHeartbeats 4000000 in
theorem walk_short (w : World) (ps pl n0 kk : Nat) (hps : ps ≤ 255) (hpl : pl ≤ 255) (hn0 : n0 ≤ 63) (e1 : Int.tmod (ps : Int) 64 = (n0 : Int)) (hk : kk ≤ n0 + 1) (e2 : Int.tmod (pl : Int) ((n0 : Int) + 1 + 1) = (kk : Int))
    (a : Option Addr) (len cap : Nat) (F : Nat → Nat → Value) (h : Recs w (.slice a len cap) [.num .i64, .num .i64, .flags] len F) (hl : len ≤ 100) :
    Calls Try.prog 4 #[.int .u8 (ps : Int), .int .u8 (pl : Int), .slice a len cap] w fun e w' => e = .returned (.bool true) ∧ Below w.heap.size w w' := by
  have H := Lib.hid h
  have t0 : decide ((100 : Int) < (len : Int)) = false := decide_eq_false (by omega)
  clear h
  go_enter Try.func4, Try.ntmps4
  go_wp2_with fail
  refine (alive_any _).mono ?_; rintro e w1 ⟨rfl, hb⟩
  have B1 := Lib.hid hb
  clear hb
  have hN := lives_new (n0 + 1) kk (by omega) (by omega) hk B1.out
  rw [show ((n0 + 1 : Nat) : Int) = (n0 : Int) + 1 by omega] at hN
  have HN := Lib.hid hN
  clear hN
  go_wp2_with fail
  refine HN.out.mono ?_; rintro e w2 ⟨q, rfl, hs⟩
  have S2 := Lib.hid hs
  clear hs HN e1 e2
  go_wp2_with fail
  clear t0
  go_loopw [45] (fun i wr => Acting w q (n0 + 1) kk len i wr) (fun i _ => len - (intOf i).toNat)
  case atStart => exact ⟨0, Nat.zero_le _, rfl, _, rfl, rfl, Nat.zero_le _, S2.out⟩
  case round =>
    obtain ⟨k, hk2, rfl, s, es, el, er, hs⟩ := hrel
    have S4 := Lib.hid hs
    have E4 := Lib.hid (And.intro es (And.intro el er))
    have hsr : s.r ≤ 1000000000000 := by omega
    clear hs es el er
    by_cases hlt : k < len
    · obtain ⟨b, off, x, y, A, m, c, lf, rfl, c1, c2, c3, hfl, hx, hy⟩ := (H.out.below (Nat.le_refl _) S4.out.below).act hlt
      have FL := Lib.hid hfl
      clear hfl hx hy
      by_cases hx1 : x = 1
      · have t1 : (x == 1) = true := by rw [beq_iff_eq]; exact hx1
        have HX := Lib.hid hx1
        clear hx1
        have HR := (S4.out.alloc (.cells #[.int .i64 x, .int .i64 y, .slice A m c] 33)).release y
        have hsame := release_same s y
        have hr := hsame.2.2
        obtain ⟨s2, hs2⟩ : ∃ s2, (release s y).2 = s2 := ⟨_, rfl⟩
        rw [hs2] at HR hsame hr
        have E5 : Hid (s2.S = n0 + 1 ∧ s2.lim = kk ∧ s2.r ≤ k + 1) := Lib.hid ⟨hsame.1.trans E4.out.1, hsame.2.1.trans E4.out.2.1, by have := E4.out.2.2; omega⟩
        have HR := Lib.hid HR
        clear hsame hr hs2
        go_wp2_with fail
        refine HR.out.mono ?_; rintro e w5 ⟨rfl, hs⟩
        have S5 := Lib.hid hs
        clear hs
        clear c1 c2 c3 HR
        go_wp2_with fail
        refine (S5.out.regions).mono ?_; rintro e w6 ⟨v, rfl, hv, hs⟩
        obtain ⟨va, vcap, rfl, hvl, hvc⟩ := hv.shape
        have S6 := Lib.hid hs
        have E5' := E5.out
        have hg := hs.good
        obtain ⟨l, hl⟩ : ∃ l, s2.l = l := ⟨_, rfl⟩
        have hok : Ok (n0 + 1) l := by rw [← hl, ← E5'.1]; exact hg.ok
        have hsum : total l ≤ kk := by rw [← hl, ← E5'.2.1]; exact hg.sum
        have HL := Lib.hid hl
        rw [hl] at hv hvl
        rw [hl]
        have V6 := Lib.hid hv
        have hll : l.length ≤ 64 := by have := length_le_total hok; omega
        have OK := Lib.hid hok; have SUM := Lib.hid hsum
        clear hs hv hg hl hok hsum E5' S5
        go_wp2
        go_loopw [13, 14, 70] (fun sm en i wi => Looking w q s2 l va vcap sm en i wi) (fun sm en i _ => l.length - (intOf i).toNat)
        case atStart => exact ⟨0, Nat.zero_le _, rfl, rfl, rfl, S6.out, V6.out⟩
        case round =>
          obtain ⟨j, hj, rfl, rfl, rfl, hs, hv⟩ := hrel
          have S7 := Lib.hid hs; have V7 := Lib.hid hv
          clear hs hv
          by_cases hjl : j < l.length
          · obtain ⟨⟨x1, x2⟩, hx⟩ : ∃ x, l[j]? = some x := ⟨l[j], List.getElem?_eq_getElem hjl⟩
            obtain ⟨b, off, rfl, hcell⟩ := V7.out.seq.elem hx
            have d0 := hcell 0 (.int .i64 (x1 : Int)) rfl
            have d1 := hcell 1 (.int .i64 (x2 : Int)) rfl
            simp only [Elem.pairs, Nat.add_zero] at d0 d1
            have f := ends_step OK.out hx
            have e1 := Lib.hid f.2.2.2.1
            have e2 := Lib.hid f.2.2.2.2
            have ht := Nat.le_trans (total_take_le OK.out j) SUM.out
            obtain ⟨en, hen⟩ : ∃ en, ends l j = en := ⟨_, rfl⟩
            obtain ⟨sm, hsm⟩ : ∃ sm, total (l.take j) = sm := ⟨_, rfl⟩
            rw [hen] at f ⊢
            rw [hsm] at e2 ht ⊢
            have t1 : decide (x1 < en) = false := decide_eq_false (by omega)
            have t2 : decide ((x2 : Int) < 1) = false := decide_eq_false (by omega)
            have t3 : decide ((n0 : Int) + 1 < (x1 : Int) + (x2 : Int)) = false := decide_eq_false (by omega)
            have b1 : x1 ≤ 64 := by omega
            have b2 : x2 ≤ 64 := by omega
            have b3 : sm ≤ 64 := by omega
            clear f hen hsm hx hcell ht
            go_wp2
            go_roundw
            case rel => exact ⟨j + 1, by omega, by rw [e2.out]; go_num, by rw [e1.out]; go_num, by go_num, S7.out.alloc _, V7.out.alloc _⟩
            case measure => simp [intOf]; omega
          · obtain rfl : j = l.length := by omega
            have HG := S7.out.given
            rw [HL.out] at HG
            have e0 : l.take l.length = l := List.take_length
            rw [e0]
            have hsum := SUM.out
            obtain ⟨sm, hsm⟩ : ∃ sm, total l = sm := ⟨_, rfl⟩
            rw [hsm] at HG hsum ⊢
            have HG := Lib.hid HG
            have t1 : ((sm : Int) == (sm : Int)) = true := by simp
            have t2 : decide (kk < sm) = false := decide_eq_false (by omega)
            clear e0 hsm
            go_wp2_with fail
            refine HG.out.mono ?_; rintro e w8 ⟨rfl, hs⟩
            have S8 := Lib.hid hs
            clear hs
            go_wp2
            go_roundw
            case rel => exact ⟨k + 1, by omega, by go_num, s2, E5.out.1, E5.out.2.1, E5.out.2.2, S8.out⟩
            case measure => simp [intOf]; omega
      · have t1 : (x == 1) = false := by rw [beq_eq_false_iff_ne]; exact hx1
        by_cases hx2 : x = 2
        · have t2 : (x == 2) = true := by rw [beq_iff_eq]; exact hx2
          have HX := Lib.hid hx2
          clear hx1 hx2
          have HR := (S4.out.alloc (.cells #[.int .i64 x, .int .i64 y, .slice A m c] 33)).refuse (FL.out.seq.alloc _)
          have hsame := refuse_same s lf
          have hr := hsame.2.2
          obtain ⟨s2, hs2⟩ : ∃ s2, (refuse s lf).2 = s2 := ⟨_, rfl⟩
          rw [hs2] at HR hsame hr
          have E5 : Hid (s2.S = n0 + 1 ∧ s2.lim = kk ∧ s2.r ≤ k + 1) := Lib.hid ⟨hsame.1.trans E4.out.1, hsame.2.1.trans E4.out.2.1, by have := E4.out.2.2; omega⟩
          have HR := Lib.hid HR
          clear hsame hr hs2
          go_wp2_with fail
          refine HR.out.mono ?_; rintro e w5 ⟨rfl, hs⟩
          have S5 := Lib.hid hs
          clear hs
          clear c1 c2 c3 HR
          go_wp2_with fail
          refine (S5.out.regions).mono ?_; rintro e w6 ⟨v, rfl, hv, hs⟩
          obtain ⟨va, vcap, rfl, hvl, hvc⟩ := hv.shape
          have S6 := Lib.hid hs
          have E5' := E5.out
          have hg := hs.good
          obtain ⟨l, hl⟩ : ∃ l, s2.l = l := ⟨_, rfl⟩
          have hok : Ok (n0 + 1) l := by rw [← hl, ← E5'.1]; exact hg.ok
          have hsum : total l ≤ kk := by rw [← hl, ← E5'.2.1]; exact hg.sum
          have HL := Lib.hid hl
          rw [hl] at hv hvl
          rw [hl]
          have V6 := Lib.hid hv
          have hll : l.length ≤ 64 := by have := length_le_total hok; omega
          have OK := Lib.hid hok; have SUM := Lib.hid hsum
          clear hs hv hg hl hok hsum E5' S5
          go_wp2
          go_loopw [13, 14, 70] (fun sm en i wi => Looking w q s2 l va vcap sm en i wi) (fun sm en i _ => l.length - (intOf i).toNat)
          case atStart => exact ⟨0, Nat.zero_le _, rfl, rfl, rfl, S6.out, V6.out⟩
          case round =>
            obtain ⟨j, hj, rfl, rfl, rfl, hs, hv⟩ := hrel
            have S7 := Lib.hid hs; have V7 := Lib.hid hv
            clear hs hv
            by_cases hjl : j < l.length
            · obtain ⟨⟨x1, x2⟩, hx⟩ : ∃ x, l[j]? = some x := ⟨l[j], List.getElem?_eq_getElem hjl⟩
              obtain ⟨b, off, rfl, hcell⟩ := V7.out.seq.elem hx
              have d0 := hcell 0 (.int .i64 (x1 : Int)) rfl
              have d1 := hcell 1 (.int .i64 (x2 : Int)) rfl
              simp only [Elem.pairs, Nat.add_zero] at d0 d1
              have f := ends_step OK.out hx
              have e1 := Lib.hid f.2.2.2.1
              have e2 := Lib.hid f.2.2.2.2
              have ht := Nat.le_trans (total_take_le OK.out j) SUM.out
              obtain ⟨en, hen⟩ : ∃ en, ends l j = en := ⟨_, rfl⟩
              obtain ⟨sm, hsm⟩ : ∃ sm, total (l.take j) = sm := ⟨_, rfl⟩
              rw [hen] at f ⊢
              rw [hsm] at e2 ht ⊢
              have t1 : decide (x1 < en) = false := decide_eq_false (by omega)
              have t2 : decide ((x2 : Int) < 1) = false := decide_eq_false (by omega)
              have t3 : decide ((n0 : Int) + 1 < (x1 : Int) + (x2 : Int)) = false := decide_eq_false (by omega)
              have b1 : x1 ≤ 64 := by omega
              have b2 : x2 ≤ 64 := by omega
              have b3 : sm ≤ 64 := by omega
              clear f hen hsm hx hcell ht
              go_wp2
              go_roundw
              case rel => exact ⟨j + 1, by omega, by rw [e2.out]; go_num, by rw [e1.out]; go_num, by go_num, S7.out.alloc _, V7.out.alloc _⟩
              case measure => simp [intOf]; omega
            · obtain rfl : j = l.length := by omega
              have HG := S7.out.given
              rw [HL.out] at HG
              have e0 : l.take l.length = l := List.take_length
              rw [e0]
              have hsum := SUM.out
              obtain ⟨sm, hsm⟩ : ∃ sm, total l = sm := ⟨_, rfl⟩
              rw [hsm] at HG hsum ⊢
              have HG := Lib.hid HG
              have t1 : ((sm : Int) == (sm : Int)) = true := by simp
              have t2 : decide (kk < sm) = false := decide_eq_false (by omega)
              clear e0 hsm
              go_wp2_with fail
              refine HG.out.mono ?_; rintro e w8 ⟨rfl, hs⟩
              have S8 := Lib.hid hs
              clear hs
              go_wp2
              go_roundw
              case rel => exact ⟨k + 1, by omega, by go_num, s2, E5.out.1, E5.out.2.1, E5.out.2.2, S8.out⟩
              case measure => simp [intOf]; omega
        · have t2 : (x == 2) = false := by rw [beq_eq_false_iff_ne]; exact hx2
          clear hx1 hx2
          have HR := (S4.out.alloc (.cells #[.int .i64 x, .int .i64 y, .slice A m c] 33)).reserve y hsr
          have hsame := reserve_same s y
          have hr := hsame.2.2
          obtain ⟨s2, hs2⟩ : ∃ s2, (reserve s y).2.2 = s2 := ⟨_, rfl⟩
          rw [hs2] at HR hsame hr
          have E5 : Hid (s2.S = n0 + 1 ∧ s2.lim = kk ∧ s2.r ≤ k + 1) := Lib.hid ⟨hsame.1.trans E4.out.1, hsame.2.1.trans E4.out.2.1, by have := E4.out.2.2; omega⟩
          have HR := Lib.hid HR
          clear hsame hr hs2
          go_wp2_with fail
          refine HR.out.mono ?_; rintro e w5 ⟨rfl, hs⟩
          have S5 := Lib.hid hs
          clear hs
          clear c1 c2 c3 HR
          go_wp2_with fail
          refine (S5.out.regions).mono ?_; rintro e w6 ⟨v, rfl, hv, hs⟩
          obtain ⟨va, vcap, rfl, hvl, hvc⟩ := hv.shape
          have S6 := Lib.hid hs
          have E5' := E5.out
          have hg := hs.good
          obtain ⟨l, hl⟩ : ∃ l, s2.l = l := ⟨_, rfl⟩
          have hok : Ok (n0 + 1) l := by rw [← hl, ← E5'.1]; exact hg.ok
          have hsum : total l ≤ kk := by rw [← hl, ← E5'.2.1]; exact hg.sum
          have HL := Lib.hid hl
          rw [hl] at hv hvl
          rw [hl]
          have V6 := Lib.hid hv
          have hll : l.length ≤ 64 := by have := length_le_total hok; omega
          have OK := Lib.hid hok; have SUM := Lib.hid hsum
          clear hs hv hg hl hok hsum E5' S5
          go_wp2
          go_loopw [13, 14, 70] (fun sm en i wi => Looking w q s2 l va vcap sm en i wi) (fun sm en i _ => l.length - (intOf i).toNat)
          case atStart => exact ⟨0, Nat.zero_le _, rfl, rfl, rfl, S6.out, V6.out⟩
          case round =>
            obtain ⟨j, hj, rfl, rfl, rfl, hs, hv⟩ := hrel
            have S7 := Lib.hid hs; have V7 := Lib.hid hv
            clear hs hv
            by_cases hjl : j < l.length
            · obtain ⟨⟨x1, x2⟩, hx⟩ : ∃ x, l[j]? = some x := ⟨l[j], List.getElem?_eq_getElem hjl⟩
              obtain ⟨b, off, rfl, hcell⟩ := V7.out.seq.elem hx
              have d0 := hcell 0 (.int .i64 (x1 : Int)) rfl
              have d1 := hcell 1 (.int .i64 (x2 : Int)) rfl
              simp only [Elem.pairs, Nat.add_zero] at d0 d1
              have f := ends_step OK.out hx
              have e1 := Lib.hid f.2.2.2.1
              have e2 := Lib.hid f.2.2.2.2
              have ht := Nat.le_trans (total_take_le OK.out j) SUM.out
              obtain ⟨en, hen⟩ : ∃ en, ends l j = en := ⟨_, rfl⟩
              obtain ⟨sm, hsm⟩ : ∃ sm, total (l.take j) = sm := ⟨_, rfl⟩
              rw [hen] at f ⊢
              rw [hsm] at e2 ht ⊢
              have t1 : decide (x1 < en) = false := decide_eq_false (by omega)
              have t2 : decide ((x2 : Int) < 1) = false := decide_eq_false (by omega)
              have t3 : decide ((n0 : Int) + 1 < (x1 : Int) + (x2 : Int)) = false := decide_eq_false (by omega)
              have b1 : x1 ≤ 64 := by omega
              have b2 : x2 ≤ 64 := by omega
              have b3 : sm ≤ 64 := by omega
              clear f hen hsm hx hcell ht
              go_wp2
              go_roundw
              case rel => exact ⟨j + 1, by omega, by rw [e2.out]; go_num, by rw [e1.out]; go_num, by go_num, S7.out.alloc _, V7.out.alloc _⟩
              case measure => simp [intOf]; omega
            · obtain rfl : j = l.length := by omega
              have HG := S7.out.given
              rw [HL.out] at HG
              have e0 : l.take l.length = l := List.take_length
              rw [e0]
              have hsum := SUM.out
              obtain ⟨sm, hsm⟩ : ∃ sm, total l = sm := ⟨_, rfl⟩
              rw [hsm] at HG hsum ⊢
              have HG := Lib.hid HG
              have t1 : ((sm : Int) == (sm : Int)) = true := by simp
              have t2 : decide (kk < sm) = false := decide_eq_false (by omega)
              clear e0 hsm
              go_wp2_with fail
              refine HG.out.mono ?_; rintro e w8 ⟨rfl, hs⟩
              have S8 := Lib.hid hs
              clear hs
              go_wp2
              go_roundw
              case rel => exact ⟨k + 1, by omega, by go_num, s2, E5.out.1, E5.out.2.1, E5.out.2.2, S8.out⟩
              case measure => simp [intOf]; omega
    · obtain rfl : k = len := by omega
      go_wp2
      go_ret
      exact ⟨rfl, S4.out.below⟩
theorem walk_long (w : World) (ps pl n0 kk : Nat) (hps : ps ≤ 255) (hpl : pl ≤ 255) (hn0 : n0 ≤ 63) (e1 : Int.tmod (ps : Int) 64 = (n0 : Int)) (hk : kk ≤ n0 + 1) (e2 : Int.tmod (pl : Int) ((n0 : Int) + 1 + 1) = (kk : Int))
    (a : Option Addr) (len cap : Nat) (hl : 100 < len) :
    Calls Try.prog 4 #[.int .u8 (ps : Int), .int .u8 (pl : Int), .slice a len cap] w fun e w' => e = .returned (.bool true) ∧ Below w.heap.size w w' := by
  have t0 : decide ((100 : Int) < (len : Int)) = true := decide_eq_true (by omega)
  go_enter Try.func4, Try.ntmps4
  go_wp2_with fail
  refine (alive_any _).mono ?_; rintro e w1 ⟨rfl, hb⟩
  have B1 := Lib.hid hb
  clear hb
  have hN := lives_new (n0 + 1) kk (by omega) (by omega) hk B1.out
  rw [show ((n0 + 1 : Nat) : Int) = (n0 : Int) + 1 by omega] at hN
  have HN := Lib.hid hN
  clear hN
  go_wp2_with fail
  refine HN.out.mono ?_; rintro e w2 ⟨q, rfl, hs⟩
  have S2 := Lib.hid hs
  clear hs HN e1 e2
  go_wp2
  go_ret
  exact ⟨rfl, S2.out.below⟩
theorem walk (w : World) (a : Int) (h1 : (Lit.int .u8 a).wf = true) (b : Int) (h2 : (Lit.int .u8 b).wf = true) {A : Option Addr} {n cap : Nat} (len : Nat) (F : Nat → Nat → Value) (h : Recs w (.slice A n cap) [.num .i64, .num .i64, .flags] len F) :
    Calls Try.prog 4 #[.int .u8 a, .int .u8 b, .slice A n cap] w fun e w' => e = .returned (.bool true) ∧ Below w.heap.size w w' := by
  have b1 := u8_bd h1
  have b2 := u8_bd h2
  obtain ⟨a, rfl⟩ := Int.eq_ofNat_of_zero_le b1.1
  obtain ⟨b, rfl⟩ := Int.eq_ofNat_of_zero_le b2.1
  obtain ⟨rfl, _, _⟩ := h.len
  have hm : b % (a % 64 + 1 + 1) < a % 64 + 1 + 1 := Nat.mod_lt _ (by omega)
  have e2 : Int.tmod (b : Int) (((a % 64 : Nat) : Int) + 1 + 1) = ((b % (a % 64 + 1 + 1) : Nat) : Int) := by rw [show ((a % 64 : Nat) : Int) + 1 + 1 = ((a % 64 + 1 + 1 : Nat) : Int) by omega]; exact (Int.ofNat_tmod _ _).symm
  by_cases hl : n ≤ 100
  · exact walk_short w a b (a % 64) (b % (a % 64 + 1 + 1)) (by omega) (by omega) (by omega) (Int.ofNat_tmod _ _).symm (by omega) e2 A n cap F h hl
  · exact walk_long w a b (a % 64) (b % (a % 64 + 1 + 1)) (by omega) (by omega) (by omega) (Int.ofNat_tmod _ _).symm (by omega) e2 A n cap (by omega)
end Go.Proofs.Ytnkahcfkbpbhiaa.arenaApart
