/- The laws' 'great' of layer 11; their acts. -/
import Derived.Test.YtolccandekgmoaaQueueCl
import Derived.Test.YtolccandekgmoaaRecs
namespace Go.Proofs.Ytolccandekgmoaa
open Go.RowKit QueueMath
set_option linter.unusedVariables false

abbrev ActL : List Leaf := [.num .i64, .num .i64, .nums .i64]
def lenV : Value → Nat
  | .slice _ n _ => n
  | _ => 0
/-- How many numbers the first k acts hold. -/
def tot (F : Nat → Nat → Value) : Nat → Nat
  | 0 => 0
  | k + 1 => tot F k + lenV (F k 2)
theorem tot_le {F : Nat → Nat → Value} {B : Nat} : ∀ {k : Nat}, (∀ i, i < k → lenV (F i 2) ≤ B) → tot F k ≤ k * B := by
  intro k
  induction k with
  | zero => intro _; exact Nat.zero_le _
  | succ k ih =>
    intro h
    have h1 := ih fun i hi => h i (by omega)
    have h2 := h k (by omega)
    show tot F k + lenV (F k 2) ≤ (k + 1) * B
    rw [Nat.add_mul]; omega
theorem tot_mono {F : Nat → Nat → Value} {j k : Nat} (h : j ≤ k) : tot F j ≤ tot F k := by
  induction k with
  | zero => rw [Nat.le_zero.1 h]; exact Nat.le_refl _
  | succ k ih =>
    by_cases e : j = k + 1
    · rw [e]; exact Nat.le_refl _
    · exact Nat.le_trans (ih (by omega)) (Nat.le_add_right _ _)
theorem act11 {w : World} {a : Option Addr} {n cap len : Nat} {F : Nat → Nat → Value} (h : Recs w (.slice a n cap) ActL len F) {i : Nat} (hi : i < len) :
    ∃ b off k x av cv, ∃ l : List Int, a = some ⟨b, off, none⟩ ∧ F i 2 = .slice av l.length cv ∧ (∀ w', Below w.heap.size w w' → w'.cell? ⟨b, off + i * 3, none⟩ = some (.int .i64 k) ∧ w'.cell? ⟨b, off + i * 3 + 1, none⟩ = some (.int .i64 x) ∧ w'.cell? ⟨b, off + i * 3 + 2, none⟩ = some (.slice av l.length cv)) ∧ I64 k ∧ I64 x ∧ NumsAt w .i64 (.slice av l.length cv) l := by
  obtain ⟨b, off, rfl, hc⟩ := h.elem hi
  have c0 := hc 0 (by simp)
  have c1 := hc 1 (by simp)
  have c2 := hc 2 (by simp)
  have l0 := leaf_int (h.leaf hi 0 _ rfl)
  have l1 := leaf_int (h.leaf hi 1 _ rfl)
  obtain ⟨l, hl⟩ : ∃ l, NumsAt w .i64 (F i 2) l := h.leaf hi 2 _ rfl
  obtain ⟨av, cv, e, _⟩ := id hl
  rw [e] at hl c2
  rw [l0.1] at c0
  rw [l1.1] at c1
  have hct : ∀ {q : Addr} {v : Value} {w' : World}, w.cell? q = some v → Below w.heap.size w w' → w'.cell? q = some v := fun {q v w'} h hb => (hb.cell (p := q) (World.block_lt_of_cell? w _ h)).trans h
  exact ⟨b, off, _, _, av, cv, l, rfl, e, fun w' hb => ⟨hct c0 hb, hct c1 hb, hct c2 hb⟩, I64.of l0.2, I64.of l1.2, hl⟩
/-- The bound on what comes in. -/
def Fits (F : Nat → Nat → Value) (len : Nat) : Prop := ∀ i, i < len → lenV (F i 2) ≤ 17592186044416
def GreatR (w : World) (F : Nat → Nat → Value) (n : Nat) (s i : Value) (wr : World) : Prop :=
  ∃ (j : Nat) (x : Int), j ≤ n ∧ i = .int .i64 (j : Int) ∧ s = .int .i64 x ∧ (n ≤ 100 → x = (tot F j : Int)) ∧ Below w.heap.size w wr
set_option maxHeartbeats 1000000 in
theorem great_any (w : World) {a : Option Addr} {n cap len : Nat} {F : Nat → Nat → Value} (hr : Recs w (.slice a n cap) ActL len F) (hf : Fits F len) (w' : World) (hw : Below w.heap.size w w') :
    Calls Try.prog 10 #[.slice a n cap] w' fun e w2 => e = .returned (.bool (decide (100 < n ∨ 500 < tot F n))) ∧ Below w'.heap.size w' w2 := by
  obtain ⟨rfl, hn1, hn2⟩ := hr.len
  have HR := Lib.hid hr; have HF := Lib.hid hf; have HW := Lib.hid hw
  have I0 := Lib.hid (show GreatR w' F n (.int .i64 0) (.int .i64 0) w' from ⟨0, 0, Nat.zero_le _, rfl, rfl, fun _ => rfl, Below.refl _ _⟩)
  obtain ⟨g, hg⟩ : ∃ g, decide (100 < n ∨ 500 < tot F n) = g := ⟨_, rfl⟩
  have HG := Lib.hid hg
  rw [hg]
  clear hr hf hw hg
  go_enter Try.func10, Try.ntmps10
  go_wp2
  go_loopw [3, 8] (fun s i wr => GreatR w' F n s i wr) (fun _ i _ => n - (intOf i).toNat)
  case atStart => exact I0.out
  case round =>
    clear I0
    obtain ⟨j, x, hj, rfl, rfl, hx, hb⟩ := hrel
    have B := Lib.hid hb; have HX := Lib.hid hx
    by_cases hjn : j < n
    · obtain ⟨b, off, k, y, av, cv, l, ea, eF, hc, _, _, hl⟩ := act11 HR.out hjn
      obtain ⟨c0, c1, c2⟩ := hc wr (below_then HW.out HW.out.size hb)
      subst ea
      obtain ⟨m, hm⟩ : ∃ m, l.length = m := ⟨_, rfl⟩
      rw [hm] at c2 eF
      have hle : m ≤ 17592186044416 := by have := HF.out j hjn; rw [eF] at this; exact this
      have et : tot F (j + 1) = tot F j + m := by show tot F j + lenV (F j 2) = _; rw [eF]; rfl
      obtain ⟨z, hz⟩ : ∃ z, IntKind.i64.wrap (x + (m : Int)) = z := ⟨_, rfl⟩
      have HZ : Hid (n ≤ 100 → z = (tot F (j + 1) : Int)) := Lib.hid fun h100 => by
        have h1 := tot_le (k := j) (fun i hi => HF.out i (by omega))
        have h2 := Nat.mul_le_mul (show j ≤ 100 by omega) (Nat.le_refl 17592186044416)
        rw [← hz, HX.out h100, et, IntWalk.i64_in _ ⟨by omega, by omega⟩]
        omega
      have t2 : decide ((j : Int) < (n : Int)) = true := decide_eq_true (by omega)
      have t2' : decide (j < n) = true := decide_eq_true hjn
      have q3 : (0 : Int) ≤ (j : Int) := by omega
      have q4 : (j : Int) < (n : Int) := by omega
      clear hc hx hb hl eF et hm
      go_wp2
      go_roundw
      case rel => exact ⟨j + 1, z, by omega, by go_num, rfl, HZ.out, B.out.alloc B.out.size _⟩
      case measure => simp [intOf]; omega
    · obtain rfl : j = n := by omega
      have t2 : decide ((j : Int) < (j : Int)) = false := decide_eq_false (by omega)
      by_cases h100 : 100 < j
      · have t3 : decide ((100 : Int) < (j : Int)) = true := decide_eq_true (by omega)
        have t3' : decide (100 < j) = true := decide_eq_true h100
        have eg : g = true := by rw [← HG.out]; exact decide_eq_true (.inl h100)
        subst eg
        clear hb hx h100
        go_wp2
        go_ret
        exact ⟨rfl, B.out⟩
      · have t3 : decide ((100 : Int) < (j : Int)) = false := decide_eq_false (by omega)
        have t3' : decide (100 < j) = false := decide_eq_false h100
        have ex := HX.out (by omega)
        subst ex
        obtain ⟨T, hT⟩ : ∃ T, tot F j = T := ⟨_, rfl⟩
        have hg := HG.out
        rw [hT] at hg ⊢
        have t4 : decide ((500 : Int) < (T : Int)) = g := by rw [← hg]; exact decide_eq_decide.2 (by omega)
        have t4' : decide (500 < T) = g := by rw [← hg]; exact decide_eq_decide.2 (by omega)
        clear hb hx h100 hg hT HX
        go_wp2
        go_ret
        exact ⟨rfl, B.out⟩
end Go.Proofs.Ytolccandekgmoaa
