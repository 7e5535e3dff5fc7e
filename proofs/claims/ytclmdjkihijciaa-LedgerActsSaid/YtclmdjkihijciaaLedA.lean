/- The landed ledger: what it stands on: sizes, comparisons, the search in a row. -/
import Derived.Test.YtclmdjkihijciaaLedMath
import Derived.Test.YtclmdjkihijciaaElems
import Derived.Test.YtclmdjkihijciaaPow2
import Derived.Test.YtclmdjkihijciaaQuiet
import Derived.Deep.RegionHeld3
import Derived.Deep.LoopGhost
import Derived.IntWalk
namespace Go.Proofs.Ytclmdjkihijciaa
open Go.RowKit LedMath
set_option linter.unusedVariables false

def Elem.ents : Elem En := ⟨4, fun e => [.int .u64 (e.a : Int), .int .u64 (e.n : Int), .int .u64 (e.g : Int), .bool e.h], fun _ => rfl, by intro x u h; simp only [List.mem_cons, List.not_mem_nil, or_false] at h; rcases h with rfl | rfl | rfl | rfl <;> rfl, by decide⟩
def Elem.blks : Elem (Nat × Nat × Nat) := ⟨3, fun b => [.int .u64 (b.1 : Int), .int .u64 (b.2.1 : Int), .int .u64 (b.2.2 : Int)], fun _ => rfl, by intro x u h; simp only [List.mem_cons, List.not_mem_nil, or_false] at h; rcases h with rfl | rfl | rfl <;> rfl, by decide⟩
def blkV (a n g : Nat) : Value := .agg #[.int .u64 (a : Int), .int .u64 (n : Int), .int .u64 (g : Int)]
def entV (e : En) : Value := .agg #[.int .u64 (e.a : Int), .int .u64 (e.n : Int), .int .u64 (e.g : Int), .bool e.h]
/-- The four cells of an entry. -/
structure Cell4 (w : World) (b o : Nat) (e : En) : Prop where
  c0 : w.cell? ⟨b, o, none⟩ = some (.int .u64 (e.a : Int))
  c1 : w.cell? ⟨b, o + 1, none⟩ = some (.int .u64 (e.n : Int))
  c2 : w.cell? ⟨b, o + 2, none⟩ = some (.int .u64 (e.g : Int))
  c3 : w.cell? ⟨b, o + 3, none⟩ = some (.bool e.h)
theorem Cell4.below {w w' : World} {b o : Nat} {e : En} (h : Cell4 w b o e) (hb : Below w.heap.size w w') : Cell4 w' b o e :=
  ⟨cell_later h.c0 (Nat.le_refl _) hb, cell_later h.c1 (Nat.le_refl _) hb, cell_later h.c2 (Nat.le_refl _) hb, cell_later h.c3 (Nat.le_refl _) hb⟩
theorem Seq.ent {w : World} {a : Option Addr} {n cap : Nat} {l : List En} (h : Seq Elem.ents w (.slice a n cap) l) {i : Nat} {e : En} (he : l[i]? = some e) : ∃ b off, a = some ⟨b, off, none⟩ ∧ Cell4 w b (off + i * 4) e := by
  obtain ⟨b, off, ea, hc⟩ := h.elem he
  exact ⟨b, off, ea, hc 0 _ rfl, hc 1 _ rfl, hc 2 _ rfl, hc 3 _ rfl⟩

theorem code_taken (w : World) (a n g : Nat) : Calls Try.prog 27 #[blkV a n g] w fun e w' => e = .returned (.int .u64 ((max n 1 : Nat) : Int)) ∧ Below w.heap.size w w' := by
  unfold blkV
  by_cases hn : (1 : Int) ≤ (n : Int)
  · obtain ⟨m, hm, hmn⟩ : ∃ m : Nat, max n 1 = m ∧ n = m := ⟨_, rfl, by omega⟩
    rw [hm]
    subst hmn
    clear hm
    go_enter Try.func27, Try.ntmps27
    go_wp2
    go_ret
    exact ⟨rfl, (Below.refl _ w).alloc (Nat.le_refl _) _⟩
  · obtain ⟨m, hm, hmn⟩ : ∃ m : Nat, max n 1 = m ∧ m = 1 := ⟨_, rfl, by omega⟩
    rw [hm]
    subst hmn
    clear hm
    go_enter Try.func27, Try.ntmps27
    go_wp2
    go_ret
    exact ⟨rfl, (Below.refl _ w).alloc (Nat.le_refl _) _⟩
theorem code_isNaN (w : World) (x : Nat) : Calls Try.prog 51 #[.int .u64 (x : Int)] w fun e w' => e = .returned (.bool false) ∧ w' = w := by
  go_enter Try.func51, Try.ntmps51
  go_wp2
  go_ret
  exact ⟨rfl, rfl⟩
def cmpI (x y : Nat) : Int := if x < y then -1 else if y < x then 1 else 0
theorem cmpI_neg {x y : Nat} : decide (cmpI x y < 0) = decide (x < y) := by
  unfold cmpI
  by_cases h : x < y
  · simp [h]
  · by_cases k : y < x <;> simp [h, k]
theorem cmpI_zero {x y : Nat} : decide (cmpI x y = 0) = decide (x = y) := by
  unfold cmpI
  by_cases h : x < y
  · simp [h]; omega
  · by_cases k : y < x
    · simp [h, k]; omega
    · simp [h, k]; omega
theorem code_compare (w : World) (x y : Nat) : Calls Try.prog 47 #[.int .u64 (x : Int), .int .u64 (y : Int)] w fun e w' => e = .returned (.int .i64 (cmpI x y)) ∧ w' = w := by
  have H := Lib.hid (fun v => code_isNaN w v)
  unfold cmpI
  by_cases h1 : x < y
  · have t1 : decide (x < y) = true := decide_eq_true h1
    rw [if_pos h1]
    clear h1
    go_enter Try.func47, Try.ntmps47
    go_wp2_with (go_at_call 51; refine (H.out _).mono ?_; rintro e w' ⟨rfl, rfl⟩)
    go_ret
    exact ⟨rfl, rfl⟩
  · have t1 : decide (x < y) = false := decide_eq_false h1
    rw [if_neg h1]
    clear h1
    by_cases h2 : y < x
    · have t2 : decide (y < x) = true := decide_eq_true h2
      rw [if_pos h2]
      clear h2
      go_enter Try.func47, Try.ntmps47
      go_wp2_with (go_at_call 51; refine (H.out _).mono ?_; rintro e w' ⟨rfl, rfl⟩)
      go_ret
      exact ⟨rfl, rfl⟩
    · have t2 : decide (y < x) = false := decide_eq_false h2
      rw [if_neg h2]
      clear h2
      go_enter Try.func47, Try.ntmps47
      go_wp2_with (go_at_call 51; refine (H.out _).mono ?_; rintro e w' ⟨rfl, rfl⟩)
      go_ret
      exact ⟨rfl, rfl⟩
theorem code_cmp (w : World) (a n g x : Nat) (h : Bool) : Calls Try.prog 46 #[.agg #[.int .u64 (a : Int), .int .u64 (n : Int), .int .u64 (g : Int), .bool h], .int .u64 (x : Int)] w fun e w' => e = .returned (.int .i64 (cmpI a x)) ∧ Below w.heap.size w w' := by
  go_enter Try.func46, Try.ntmps46
  go_wp2_with (go_at_call 47; refine (code_compare _ _ _).mono ?_; rintro e w' ⟨rfl, rfl⟩)
  go_ret
  exact ⟨rfl, (Below.refl _ w).alloc (Nat.le_refl _) _⟩

/-- The search's own state. -/
def Srch (w : World) (l : List En) (x : Nat) (k : Nat) (si sj : Value) (wr : World) : Prop :=
  ∃ lo hi : Nat, si = .int .i64 (lo : Int) ∧ sj = .int .i64 (hi : Int) ∧ lo ≤ hi ∧ hi ≤ l.length ∧ hi - lo ≤ k ∧ Below w.heap.size w wr ∧ (∀ j e, j < lo → l[j]? = some e → e.a < x) ∧ ∀ j e, hi ≤ j → l[j]? = some e → x ≤ e.a
set_option maxHeartbeats 2000000 in
theorem code_search (w : World) {a : Option Addr} {n cap x : Nat} {l : List En} (h : Seq Elem.ents w (.slice a n cap) l) (hl : l.Pairwise fun x y : En => x.a < y.a) (hn : l.length ≤ 1048576) :
    Calls Try.prog 45 #[.slice a n cap, .int .u64 (x : Int), .func (.func 46) #[] #[]] w fun e w' =>
      e = .returned (.tuple #[.int .i64 ((aheadL l x : Nat) : Int), .bool (beginsL l x)]) ∧ Below w.heap.size w w' := by
  obtain rfl := h.len
  have HS := Lib.hid h; have HL := Lib.hid hl
  have HC := Lib.hid (fun (w' : World) (a n g : Nat) (f : Bool) => code_cmp w' a n g x f)
  have I0 := Lib.hid (show Srch w l x l.length (.int .i64 0) (.int .i64 (l.length : Int)) w from ⟨0, l.length, rfl, rfl, Nat.zero_le _, Nat.le_refl _, by omega, Below.refl _ _, fun j e hj => absurd hj (Nat.not_lt_zero _), fun j e hj he => by have := (List.getElem?_eq_some_iff.1 he).1; omega⟩)
  obtain ⟨N, hN⟩ : ∃ N, l.length = N := ⟨_, rfl⟩
  rw [hN] at hn
  have HN := Lib.hid hN
  rw [hN] at I0 ⊢
  clear h hl hN
  go_enter Try.func45, Try.ntmps45
  go_wp2
  go_loopg [9, 10] N (fun k si sj wr => Srch w l x k si sj wr)
  case atStart => exact I0.out
  case round =>
    clear I0
    obtain ⟨lo, hi, rfl, rfl, hlh, hin, hg, hb, h1, h2⟩ := hrel
    rw [HN.out] at hin
    have B := Lib.hid hb; have H1 := Lib.hid h1; have H2 := Lib.hid h2
    clear hb h1 h2
    by_cases hlt : lo < hi
    · obtain ⟨m, hm⟩ : ∃ m, (lo + hi) / 2 = m := ⟨_, rfl⟩
      have m1 : lo ≤ m := by omega
      have m2 : m < hi := by omega
      obtain ⟨e, he⟩ : ∃ e, l[m]? = some e := ⟨_, List.getElem?_eq_getElem (by rw [HN.out]; omega)⟩
      obtain ⟨b, off, rfl, hc⟩ := (HS.out.below (Nat.le_refl _) B.out).ent he
      have HE := Lib.hid he
      obtain ⟨c0, c1, c2, c3⟩ := hc
      have e1 : ((lo : Int) + (hi : Int)) / 2 = (m : Int) := by omega
      clear he
      by_cases hx : e.a < x
      · have t1 : decide (cmpI e.a x < 0) = true := by rw [cmpI_neg]; exact decide_eq_true hx
        go_wp2_with fail
        refine (HC.out _ _ _ _ _).mono ?_
        rintro e1 w1 ⟨rfl, hb1⟩
        have B1 := Lib.hid (B.out.trans (hb1.mono B.out.size))
        clear hb1
        go_wp2_with fail
        go_roundg (hi - (m + 1))
        case measure => omega
        case rel => exact ⟨m + 1, hi, by go_num, rfl, by omega, by rw [HN.out]; exact hin, Nat.le_refl _, B1.out, fun j f hj hf => by
          have := (ahead_lt HL.out hf (x := x)).2 (Nat.lt_of_lt_of_le (by omega) ((ahead_lt HL.out HE.out (x := x)).1 hx)); exact this, H2.out⟩
      · have t1 : decide (cmpI e.a x < 0) = false := by rw [cmpI_neg]; exact decide_eq_false hx
        go_wp2_with fail
        refine (HC.out _ _ _ _ _).mono ?_
        rintro e1 w1 ⟨rfl, hb1⟩
        have B1 := Lib.hid (B.out.trans (hb1.mono B.out.size))
        clear hb1
        go_wp2_with fail
        go_roundg (m - lo)
        case measure => omega
        case rel => exact ⟨lo, m, rfl, rfl, by omega, by rw [HN.out]; omega, Nat.le_refl _, B1.out, H1.out, fun j f hj hf => by
          have h3 := ahead_lt HL.out hf (x := x)
          have h4 := ahead_lt HL.out HE.out (x := x)
          refine Nat.le_of_not_lt fun hlt => hx (h4.2 ?_)
          have := h3.1 hlt
          omega⟩
    · obtain rfl : lo = hi := by omega
      have ea : aheadL l x = lo := ahead_of HL.out (by rw [HN.out]; exact hin) H1.out H2.out
      have EA := Lib.hid ea
      by_cases hend : lo = N
      · subst hend
        have eb : beginsL l x = false := by
          rw [← Bool.not_eq_true, begins_at HL.out, ea]
          rintro ⟨e, he, _⟩
          have := (List.getElem?_eq_some_iff.1 he).1
          rw [HN.out] at this; omega
        have EB := Lib.hid eb
        clear ea eb
        go_wp2_with fail
        go_ret2
        exact ⟨by rw [EA.out, EB.out]; rfl, B.out⟩
      · obtain ⟨e, he⟩ : ∃ e, l[lo]? = some e := ⟨_, List.getElem?_eq_getElem (by rw [HN.out]; omega)⟩
        obtain ⟨b, off, rfl, hc⟩ := (HS.out.below (Nat.le_refl _) B.out).ent he
        have eb : beginsL l x = decide (e.a = x) := by
          rw [Bool.eq_iff_iff, begins_at HL.out, ea, he]
          simp
        rw [← cmpI_zero, show decide (cmpI e.a x = 0) = (cmpI e.a x == 0) from rfl] at eb
        obtain ⟨c0, c1, c2, c3⟩ := hc
        obtain ⟨z, hz⟩ : ∃ z, (cmpI e.a x == 0) = z := ⟨_, rfl⟩
        rw [hz] at eb
        have EB := Lib.hid eb
        have t9 : lo < N := by omega
        clear ea eb he
        go_wp2_with fail
        refine (HC.out _ _ _ _ _).mono ?_
        rintro e1 w1 ⟨rfl, hb1⟩
        have B1 := Lib.hid (B.out.trans (hb1.mono B.out.size))
        clear hb1
        go_wp2_with fail
        go_ret2
        exact ⟨by rw [EA.out, EB.out]; rfl, B1.out⟩
theorem code_find (w : World) {a : Option Addr} {n cap x : Nat} {l : List En} (h : Seq Elem.ents w (.slice a n cap) l) (hl : l.Pairwise fun x y : En => x.a < y.a) (hn : l.length ≤ 1048576) :
    Calls Try.prog 28 #[.slice a n cap, .int .u64 (x : Int)] w fun e w' =>
      e = .returned (.tuple #[.int .i64 ((aheadL l x : Nat) : Int), .bool (beginsL l x)]) ∧ Below w.heap.size w w' := by
  have H := Lib.hid (code_search w (x := x) h hl hn)
  clear h
  go_enter Try.func28, Try.ntmps28
  go_wp2_with fail
  refine H.out.mono ?_
  rintro e w' ⟨rfl, hb⟩
  go_wp2_with fail
  go_ret2
  exact ⟨rfl, hb⟩
end Go.Proofs.Ytclmdjkihijciaa
