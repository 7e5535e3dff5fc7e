/- CalcEnds: the walk. -/
import Derived.Test.YtfkbgejapmhppaaLawMath
namespace Go.Proofs.Ytfkbgejapmhppaa.calcEnds
open Go.RowKit

theorem most_list (l : List Nat) (hl : l.length ≤ 9223372036854775807) {V E : Nat} (h : CalcMath.mostN l = V ∧ CalcMath.endE l = E) (w : World) (v : Value) (hu : U64s w v l) :
    Calls Try.prog 23 #[v] w fun e w' => e = .returned (.tuple #[.int .u64 (V : Nat), .int .i64 (E : Nat)]) ∧ w = w' := by
  have := most_any w v l hu hl
  rwa [h.1, h.2] at this
theorem least_list (l : List Nat) (hl : l.length ≤ 9223372036854775807) {V E : Nat} (h : CalcMath.leastN l = V ∧ CalcMath.endE l = E) (w : World) (v : Value) (hu : U64s w v l) :
    Calls Try.prog 24 #[v] w fun e w' => e = .returned (.tuple #[.int .u64 (V : Nat), .int .i64 (E : Nat)]) ∧ w = w' := by
  have := least_any w v l hu hl
  rwa [h.1, h.2] at this

theorem walk_none (w : World) (a : Option Addr) (cap : Nat) (hac : a = none → cap = 0) :
    Calls Try.prog 8 #[.slice a 0 cap] w fun e w' => e = .returned (.bool true) ∧ Below w.heap.size w w' := by
  have M := Lib.hid (fun w => most_list [] (by simp) (V := 0) (E := 5) ⟨rfl, rfl⟩ w (.slice a 0 cap) (.inr ⟨rfl, a, cap, rfl, hac⟩))
  have L := Lib.hid (fun w => least_list [] (by simp) (V := 0) (E := 5) ⟨rfl, rfl⟩ w (.slice a 0 cap) (.inr ⟨rfl, a, cap, rfl, hac⟩))
  clear hac
  go_enter Try.func8, Try.ntmps8
  go_wp2_with (go_at_call 12; refine (alive_any _).mono ?_; rintro e w1 ⟨rfl, hb⟩)
  refine (M.out _).mono ?_; rintro e w2 ⟨rfl, rfl⟩
  go_wp2_with fail
  refine (L.out _).mono ?_; rintro e w2 ⟨rfl, rfl⟩
  go_wp2
  go_ret
  exact ⟨rfl, hb⟩

theorem mem_snoc (l : List Nat) (k : Nat) (h : k < l.length) (m : Nat) : m ∈ l.take (k + 1) ↔ m ∈ l.take k ∨ l[k] = m := by
  rw [List.take_succ_eq_append_getElem h, List.mem_append, List.mem_singleton]
  constructor
  · rintro (h | h)
    · exact .inl h
    · exact .inr h.symm
  · rintro (h | h)
    · exact .inl h
    · exact .inr h.symm

def Rel (l : List Nat) (M L : Nat) (hi lo i : Value) : Prop := ∃ (k : Nat) (p q : Bool), k ≤ l.length ∧ i = .int .i64 k ∧ hi = .bool p ∧ lo = .bool q ∧ Hid (p = true ↔ M ∈ l.take k) ∧ Hid (q = true ↔ L ∈ l.take k)

set_option maxHeartbeats 400000 in
theorem walk_cells (w : World) (b off cap : Nat) (l : List Nat) (hn : 0 < l.length) (hl : l.length ≤ 9223372036854775807)
    (hc0 : ∀ j, j < l.length → w.cell? ⟨b, off + j, none⟩ = some (.int .u64 ((l.getD j 0 : Nat) : Int))) :
    Calls Try.prog 8 #[.slice (some ⟨b, off, none⟩) l.length cap] w fun e w' => e = .returned (.bool true) ∧ Below w.heap.size w w' := by
  have hu : U64s w (.slice (some ⟨b, off, none⟩) l.length cap) l := .inl ⟨b, off, cap, rfl, hc0⟩
  have hE : CalcMath.endE l = 0 := by unfold CalcMath.endE; rw [if_neg (by omega)]
  obtain ⟨M, hM⟩ : ∃ M, CalcMath.mostN l = M := ⟨_, rfl⟩
  obtain ⟨L, hL⟩ : ∃ L, CalcMath.leastN l = L := ⟨_, rfl⟩
  have CM := Lib.hid (most_list l hl ⟨hM, hE⟩)
  have CL := Lib.hid (least_list l hl ⟨hL, hE⟩)
  have C1 := Lib.hid (most_list [M] (by simp) (V := M) (E := 0) ⟨rfl, rfl⟩)
  have memM : M ∈ l := by rw [← hM]; exact CalcMath.most_mem l hn
  have memL : L ∈ l := by rw [← hL]; exact CalcMath.least_mem l hn
  have geM : ∀ x ∈ l, x ≤ M := by rw [← hM]; exact CalcMath.most_ge l
  have leL : ∀ x ∈ l, L ≤ x := by rw [← hL]; exact CalcMath.least_le l
  have GM := Lib.hid geM; have LL := Lib.hid leL; have MM := Lib.hid memM; have ML := Lib.hid memL
  clear hM hL hE geM leL memM memL
  go_enter Try.func8, Try.ntmps8
  go_wp2_with (go_at_call 12; refine (alive_any _).mono ?_; rintro e w1 ⟨rfl, hb⟩)
  have hu1 := hu.below (Nat.le_refl _) hb
  refine (CM.out _ _ hu1).mono ?_; rintro e w2 ⟨rfl, rfl⟩
  go_wp2_with fail
  refine (CL.out _ _ hu1).mono ?_; rintro e w2 ⟨rfl, rfl⟩
  go_wp2_with fail
  have hc : ∀ j, j < l.length → w1.cell? ⟨b, off + j, none⟩ = some (.int .u64 ((l.getD j 0 : Nat) : Int)) := by
    intro j hj
    have h := hc0 j hj
    have hlt := World.block_lt_of_cell? w _ h
    rw [hb.cell (p := ⟨b, off + j, none⟩) (by simpa using hlt)]; exact h
  clear hc0 hu hu1
  go_loop [7, 8, 44] (fun hi lo i => Rel l M L hi lo i) (fun _ _ i => l.length - (intOf i).toNat)
  case atStart => exact ⟨0, false, false, Nat.zero_le _, rfl, rfl, rfl, Lib.hid (by simp), Lib.hid (by simp)⟩
  case round =>
    obtain ⟨k, p, q, hk, rfl, rfl, rfl, hp, hq⟩ := hrel
    by_cases hlt : k < l.length
    · have hcell := hc k hlt
      have hge := GM.out l[k] (List.getElem_mem hlt)
      have hle := LL.out l[k] (List.getElem_mem hlt)
      have S1 := Lib.hid (mem_snoc l k hlt M)
      have S2 := Lib.hid (mem_snoc l k hlt L)
      clear hc
      cases p <;> cases q
      · go_wp2
        exact ⟨⟨_, _, _, _, _, ⟨k + 1, _, _, by omega, by go_num, rfl, rfl, Lib.hid (by rw [S1.out, ← hp.out]; simp; omega), Lib.hid (by rw [S2.out, ← hq.out]; simp; omega)⟩, rfl, rfl, rfl, rfl, rfl⟩, by simp [intOf]; omega⟩
      · go_wp2
        exact ⟨⟨_, _, _, _, _, ⟨k + 1, _, _, by omega, by go_num, rfl, rfl, Lib.hid (by rw [S1.out, ← hp.out]; simp; omega), Lib.hid (by rw [S2.out, ← hq.out]; simp)⟩, rfl, rfl, rfl, rfl, rfl⟩, by simp [intOf]; omega⟩
      · go_wp2
        exact ⟨⟨_, _, _, _, _, ⟨k + 1, _, _, by omega, by go_num, rfl, rfl, Lib.hid (by rw [S1.out, ← hp.out]; simp), Lib.hid (by rw [S2.out, ← hq.out]; simp; omega)⟩, rfl, rfl, rfl, rfl, rfl⟩, by simp [intOf]; omega⟩
      · go_wp2
        exact ⟨⟨_, _, _, _, _, ⟨k + 1, _, _, by omega, by go_num, rfl, rfl, Lib.hid (by rw [S1.out, ← hp.out]; simp), Lib.hid (by rw [S2.out, ← hq.out]; simp)⟩, rfl, rfl, rfl, rfl, rfl⟩, by simp [intOf]; omega⟩
    · have e : k = l.length := by omega
      have et : l.take k = l := List.take_of_length_le (by omega)
      have hp1 : p = true := hp.out.2 (by rw [et]; exact MM.out)
      have hq1 : q = true := hq.out.2 (by rw [et]; exact ML.out)
      subst hp1 hq1
      clear e et hc hp hq
      go_wp2_with fail
      refine (C1.out _ _ (U64s.one_at _ _ M _ (by simp))).mono ?_; rintro e w2 ⟨rfl, rfl⟩
      go_wp2
      go_ret
      exact ⟨rfl, hb.alloc hb.size _⟩

theorem walk (w : World) {a : Option Addr} {n cap : Nat} (l : List Nat) (h : IsU64s w (.slice a n cap) l) :
    Calls Try.prog 8 #[.slice a n cap] w fun e w' => e = .returned (.bool true) ∧ Below w.heap.size w w' := by
  obtain ⟨hu, _, hl, _⟩ := h
  obtain rfl := hu.len
  rcases hu with ⟨b, off, c, e, hc⟩ | ⟨rfl, a', c, e, hac⟩
  · injection e with e1 _ e3
    subst e1 e3
    by_cases hn : 0 < l.length
    · exact walk_cells w b off cap l hn hl hc
    · obtain rfl : l = [] := List.length_eq_zero_iff.1 (by omega)
      exact walk_none w _ cap (by simp)
  · injection e with e1 _ e3
    subst e1 e3
    exact walk_none w a cap hac

end Go.Proofs.Ytfkbgejapmhppaa.calcEnds
