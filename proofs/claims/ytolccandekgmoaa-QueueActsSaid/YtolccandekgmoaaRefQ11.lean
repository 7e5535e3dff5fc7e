/- The document's own queue (allotmentref11), for QueueActs: At, without: contracts. -/
import Derived.Test.YtolccandekgmoaaOwn11
namespace Go.Proofs.Ytolccandekgmoaa
open Go.RowKit QueueMath
set_option linter.unusedVariables false

def AtR11 (w : World) (l : List Int) (x : Int) (i : Value) (wr : World) : Prop := ∃ t : Nat, t ≤ l.length ∧ i = .int .i64 (t : Int) ∧ (∀ y ∈ l.take t, x ≠ y) ∧ Below w.heap.size w wr
theorem take_next11 {l : List Int} {t : Nat} {o : Int} {φ : Int → Prop} (h : ∀ x ∈ l.take t, φ x) (ho : l[t]? = some o) (hφ : φ o) : ∀ x ∈ l.take (t + 1), φ x := fun x hx => by
  rw [List.take_add_one, ho] at hx
  rcases List.mem_append.1 hx with hx | hx
  · exact h x hx
  · rw [List.mem_singleton.1 hx]; exact hφ
set_option maxHeartbeats 1000000 in
theorem at11_any (w : World) {v : Value} {l : List Int} (h : Arr w v l) {x : Int} (hx : I64 x) :
    Calls Try.prog 23 #[v, .int .i64 x] w fun e w' => (∃ k : Int, e = .returned (.int .i64 k) ∧ decide (0 ≤ k) = decide (x ∈ l) ∧ decide (k < 0) = decide (x ∉ l)) ∧ Below w.heap.size w w' := by
  obtain ⟨a, c, rfl, h1, h2⟩ := h.out
  obtain ⟨n, hn⟩ : ∃ n, l.length = n := ⟨_, rfl⟩
  rw [hn] at h h1 ⊢
  have HN := Lib.hid hn; have H := Lib.hid h
  have I0 := Lib.hid (show AtR11 w l x (.int .i64 0) w from ⟨0, Nat.zero_le _, rfl, by simp, Below.refl _ _⟩)
  clear h hn
  go_enter Try.func23, Try.ntmps23
  go_wp2
  go_loopw [9] (fun i wr => AtR11 w l x i wr) (fun i _ => n - (intOf i).toNat)
  case atStart => exact I0.out
  case round =>
    clear I0
    obtain ⟨t, ht, rfl, hno, hb⟩ := hrel
    rw [HN.out] at ht
    have NO := Lib.hid hno; have B := Lib.hid hb
    by_cases htn : t < n
    · obtain ⟨b3, off3, y, ea, hy, hym, _, d0⟩ := (H.out.grew hb).at (t := t) (by rw [HN.out]; exact htn)
      subst ea
      have HY := Lib.hid hy; have HM := Lib.hid hym
      have t2 : decide ((t : Int) < (n : Int)) = true := decide_eq_true (by omega)
      have t2' : decide (t < n) = true := decide_eq_true htn
      have q3 : (0 : Int) ≤ (t : Int) := by omega
      have q4 : (t : Int) < (n : Int) := by omega
      clear hno hb hy hym
      by_cases hxy : x = y
      · subst hxy
        have t3 : ((x : Int) == x) = true := by simp
        go_wp2
        go_ret
        refine ⟨⟨_, rfl, ?_, ?_⟩, B.out⟩
        · rw [decide_eq_true HM.out]; exact decide_eq_true (by omega)
        · have e1 : decide (x ∉ l) = false := decide_eq_false fun h => h HM.out
          rw [e1]; exact decide_eq_false (by omega)
      · have t3 : ((x : Int) == y) = false := by rw [beq_eq_false_iff_ne]; exact hxy
        have HXY := Lib.hid hxy
        clear hxy
        go_wp2
        go_roundw
        case rel => exact ⟨t + 1, by rw [HN.out]; omega, by go_num, take_next11 NO.out HY.out HXY.out, B.out⟩
        case measure => simp [intOf]; omega
    · obtain rfl : t = n := by omega
      have t2 : decide ((t : Int) < (t : Int)) = false := decide_eq_false (by omega)
      clear hno hb
      have hni : x ∉ l := fun hm => NO.out x (by rw [← HN.out, List.take_length]; exact hm) rfl
      have HNI := Lib.hid hni
      clear hni
      go_wp2
      go_ret
      refine ⟨⟨_, rfl, ?_, ?_⟩, B.out⟩
      · rw [decide_eq_false HNI.out]; rfl
      · rw [decide_eq_true HNI.out]; rfl
def WoR (w : World) (l : List Int) (x : Int) (v i : Value) (wr : World) : Prop := ∃ t : Nat, t ≤ l.length ∧ i = .int .i64 (t : Int) ∧ Vec Elem.ints wr v (QueueMath.out (l.take t) x) ∧ (∀ k, In v k → w.heap.size ≤ k) ∧ Below w.heap.size w wr
theorem out_next (l : List Int) (x : Int) {t : Nat} {y : Int} (hy : l[t]? = some y) : QueueMath.out (l.take (t + 1)) x = if y = x then QueueMath.out (l.take t) x else QueueMath.out (l.take t) x ++ [y] := by
  rw [List.take_add_one, hy]
  unfold QueueMath.out
  rw [List.filter_append]
  split
  · rename_i e; subst e; simp
  · rename_i e; simp [e]
set_option maxHeartbeats 2000000 in
theorem without11_any (w : World) {v : Value} {l : List Int} (h : Arr w v l) {x : Int} (hx : I64 x) (hm : l.length ≤ many) :
    Calls Try.prog 27 #[v, .int .i64 x] w fun e w' => ∃ v', e = .returned v' ∧ Vec Elem.ints w' v' (QueueMath.out l x) ∧ (∀ k, In v' k → w.heap.size ≤ k) ∧ Below w.heap.size w w' := by
  obtain ⟨a, c, rfl, h1, h2⟩ := h.out
  obtain ⟨i0, hi, hz0, hz1, hz2⟩ := info_parts infoInt
  obtain ⟨n, hn⟩ : ∃ n, l.length = n := ⟨_, rfl⟩
  rw [hn] at h h1 hm ⊢
  have hm' : n ≤ 1000000 := hm
  have HN := Lib.hid hn; have H := Lib.hid h
  have I0 := Lib.hid (show WoR w l x (.slice none 0 0) (.int .i64 0) w from ⟨0, Nat.zero_le _, rfl, Vec.nil _, (by intro k hk; cases hk), Below.refl _ _⟩)
  clear h hn hm
  go_enter Try.func27, Try.ntmps27
  go_wp2
  go_loopw [5, 10] (fun v i wr => WoR w l x v i wr) (fun _ i _ => n - (intOf i).toNat)
  case atStart => exact I0.out
  case round =>
    clear I0
    obtain ⟨t, ht, rfl, hv, hin, hb⟩ := hrel
    rw [HN.out] at ht
    have B := Lib.hid hb; have V := Lib.hid hv; have NI := Lib.hid hin
    by_cases htn : t < n
    · obtain ⟨b3, off3, y, ea, hy, hym, hy64, d0⟩ := (H.out.grew hb).at (t := t) (by rw [HN.out]; exact htn)
      subst ea
      have ON := Lib.hid (out_next l x hy)
      obtain ⟨a', c', rfl, hc1, hc2⟩ := hv.slice'
      obtain ⟨m, hmm⟩ : ∃ m, (QueueMath.out (l.take t) x).length = m := ⟨_, rfl⟩
      have hm1 : m ≤ 1000000 := by have h3 := out_len (l.take t) x; rw [List.length_take] at h3; omega
      rw [hmm] at V NI hc1 ⊢
      have HMM := Lib.hid hmm
      have t2 : decide ((t : Int) < (n : Int)) = true := decide_eq_true (by omega)
      have t2' : decide (t < n) = true := decide_eq_true htn
      have q3 : (0 : Int) ≤ (t : Int) := by omega
      have q4 : (t : Int) < (n : Int) := by omega
      clear hv hin hb hy hym hmm
      by_cases hxy : x = y
      · subst hxy
        have t3 : ((x : Int) != x) = false := by simp
        go_wp2
        go_roundw
        case rel => exact ⟨t + 1, by rw [HN.out]; omega, by go_num, by rw [ON.out, if_pos rfl]; exact V.out, NI.out, B.out⟩
        case measure => simp [intOf]; omega
      · have t3 : ((x : Int) != y) = true := by rw [bne_iff_ne]; exact hxy
        have HXY := Lib.hid hxy
        clear hxy
        go_wp2_with (at_builtin; refine wpList_append_vec (E := Elem.ints) rfl (.tmp 17) (.tmp 19) 23 rfl 3 i0 (.int .i64 0) 8 Try.underlying23 hi hz0 hz1 hz2 rfl (.slice a' m c') (.slice (some ⟨wr.heap.size, 0, none⟩) 1 1) (QueueMath.out (l.take t) x) [y] rfl rfl (V.out.alloc _) (Seq.new wr _ [y] 1) ?_ ?_ ?_; (rw [HMM.out]; simp only [maxLen, List.length_cons, List.length_nil]; omega); (rw [HMM.out]; simp only [List.length_cons, List.length_nil]; omega); intro v8 w8 hv hu hin8)
        have hb8 : Below w.heap.size w w8 := (B.out.alloc B.out.size (.cells #[.int .i64 y] 3)).trans (hu.below (fun k hk => NI.out k hk) (by have := B.out.size; rw [World.size_alloc]; omega))
        have NX := Lib.hid (show WoR w l x v8 (.int .i64 ((t + 1 : Nat) : Int)) w8 from ⟨t + 1, by rw [HN.out]; omega, rfl, by rw [ON.out, if_neg (fun e => HXY.out e.symm)]; exact hv, fun k hk => by
          rcases hin8 k hk with z | z
          · exact NI.out k z
          · rw [World.size_alloc] at z; have := B.out.size; omega, hb8⟩)
        rw [show ((t + 1 : Nat) : Int) = (t : Int) + 1 by omega] at NX
        clear hv hu hin8 hb8
        go_roundw
        case rel => exact NX.out
        case measure => simp [intOf]; omega
    · obtain rfl : t = n := by omega
      have t2 : decide ((t : Int) < (t : Int)) = false := decide_eq_false (by omega)
      clear hv hin hb
      go_wp2
      go_ret
      refine ⟨_, rfl, ?_, NI.out, B.out⟩
      have := V.out
      rw [← HN.out, List.take_length] at this
      exact this
end Go.Proofs.Ytolccandekgmoaa
