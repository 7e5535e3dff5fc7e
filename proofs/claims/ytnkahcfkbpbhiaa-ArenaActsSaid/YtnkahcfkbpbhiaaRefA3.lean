/- The document's own arena (allotmentref04): Same; the law's regions: contracts. -/
import Derived.Test.YtnkahcfkbpbhiaaRefA1
namespace Go.Proofs.Ytnkahcfkbpbhiaa
open Go.RowKit ArenaMath
set_option linter.unusedVariables false

def Same4 (w : World) (n : Nat) (i : Value) (wr : World) : Prop := ∃ j : Nat, j ≤ n ∧ i = .int .i64 (j : Int) ∧ Below w.heap.size w wr
theorem same_any (w : World) (a b : Option Addr) (ca cb n : Nat) (l : List (Nat × Nat)) (hn : l.length = n) (ha : Seq Elem.pairs w (.slice a n ca) l) (hb : Seq Elem.pairs w (.slice b n cb) l) (hl : n ≤ 1000) :
    Calls Try.prog 18 #[.slice a n ca, .slice b n cb] w fun e w' => e = .returned (.bool true) ∧ Below w.heap.size w w' := by
  have HA := Lib.hid ha; have HB := Lib.hid hb; have HN := Lib.hid hn
  have t0 : ((n : Int) != (n : Int)) = false := by simp
  clear ha hb hn
  go_enter Try.func18, Try.ntmps18
  go_wp2
  clear t0
  go_loopw [13] (fun i wr => Same4 w n i wr) (fun i _ => n - (intOf i).toNat)
  case atStart => exact ⟨0, Nat.zero_le _, rfl, Below.refl _ _⟩
  case round =>
    obtain ⟨j, hj, rfl, hbl⟩ := hrel
    have B2 := Lib.hid hbl
    clear hbl
    by_cases hjl : j < n
    · obtain ⟨⟨y1, y2⟩, hy⟩ : ∃ x, l[j]? = some x := ⟨l[j]'(by rw [HN.out]; exact hjl), List.getElem?_eq_getElem _⟩
      obtain ⟨b1, o1, rfl, hc1⟩ := (HA.out.below (Nat.le_refl _) B2.out).elem hy
      obtain ⟨b2, o2, rfl, hc2⟩ := (HB.out.below (Nat.le_refl _) B2.out).elem hy
      have d0 := hc1 0 (.int .i64 (y1 : Int)) rfl
      have d1 := hc1 1 (.int .i64 (y2 : Int)) rfl
      have d2 := hc2 0 (.int .i64 (y1 : Int)) rfl
      have d3 := hc2 1 (.int .i64 (y2 : Int)) rfl
      simp only [Elem.pairs, Nat.add_zero] at d0 d1 d2 d3
      have q1 : (0 : Int) ≤ (j : Int) := by omega
      have q2 : (j : Int) < (n : Int) := by omega
      clear hc1 hc2 hy
      go_wp2
      go_quiet (fail)
      go_wp2
      go_roundw
      case rel => exact ⟨j + 1, by omega, by go_num, B2.out.trans ⟨rfl, rfl, rfl, Nat.le_refl _, fun _ _ => rfl⟩⟩
      case measure => simp [intOf]; omega
    · obtain rfl : j = n := by omega
      go_wp2
      go_ret
      exact ⟨rfl, B2.out⟩

/-! ### regions -/
theorem infoR43 : (Try.prog.info? 67).map (fun i => (i.zero, i.size, i.bytes)) = some (some (.agg #[.int .i64 0, .int .i64 0]), 2, 16) := by kernel_rfl
theorem two_at (w : World) (t : TypeId) (a n g : Nat) (hg : g = w.heap.size) : Seq Elem.pairs (w.alloc (.cells #[.int .i64 (a : Int), .int .i64 (n : Int)] t)) (.slice (some ⟨g, 0, none⟩) 1 1) [(a, n)] := by
  subst hg; exact Seq.new (E := Elem.pairs) w t [(a, n)] 1
theorem take_snoc {l : List (Nat × Nat)} {j : Nat} {x : Nat × Nat} (h : l[j]? = some x) : l.take (j + 1) = l.take j ++ [x] := by rw [List.take_add_one, h]; rfl
def Copying (w w1 : World) (sv : Value) (l : List (Nat × Nat)) (v i : Value) (wr : World) : Prop :=
  ∃ j : Nat, j ≤ l.length ∧ i = .int .i64 (j : Int) ∧ Vec Elem.pairs wr v (l.take j) ∧ (∀ b, In v b → w1.heap.size ≤ b) ∧ Vec Elem.pairs wr sv l ∧ Below w1.heap.size w1 wr
set_option maxRecDepth 100000 in
set_option maxHeartbeats 1000000 in
theorem law_regions {w : World} {q : Nat} {own : Nat → Prop} {s : St} (h : IsArena w q own s) :
    Calls Try.prog 19 #[.pointer (some ⟨q, 0, none⟩)] w fun e w' => ∃ v, e = .returned v ∧ Vec Elem.pairs w' v s.l ∧ (∀ b, In v b → w.heap.size ≤ b) ∧ Below w.heap.size w w' := by
  obtain ⟨i0, hi, hz0, hz1, hz2⟩ := info_parts infoR43
  have hgd := h.good
  have hll : s.l.length ≤ 64 := by have := length_le_total hgd.ok; have := hgd.sum; have := hgd.lim; have := hgd.S2; omega
  have OK := Lib.hid hgd.ok
  have hS := hgd.S2
  have HR := Lib.hid (regions_any h)
  clear h hgd
  go_enter Try.func19, Try.ntmps19
  go_wp2_with fail
  refine HR.out.mono ?_; rintro e w1 ⟨v, rfl, hv, hin, hb⟩
  obtain ⟨sa, scap, rfl, _, _⟩ := hv.shape
  have V1 := Lib.hid hv; have B1 := Lib.hid hb
  have s1 := hb.size
  obtain ⟨l, hl'⟩ : ∃ l, s.l = l := ⟨_, rfl⟩
  have HL := Lib.hid hl'
  rw [hl'] at V1 OK hll ⊢
  clear hv hb hin HR hl'
  go_wp2
  go_loopw [3, 9] (fun v i wr => Copying w w1 (.slice sa l.length scap) l v i wr) (fun v i _ => l.length - (intOf i).toNat)
  case atStart => exact ⟨0, Nat.zero_le _, rfl, Vec.nil _, (by intro b hb; cases hb), V1.out, Below.refl _ _⟩
  case round =>
    obtain ⟨j, hj, rfl, hv, hin, hsv, hb⟩ := hrel
    obtain ⟨a', n', cap', rfl⟩ := hv.is
    have V := Lib.hid hv; have N := Lib.hid hin; have SV := Lib.hid hsv; have B := Lib.hid hb
    have sr := hb.size
    clear hv hin hsv hb
    by_cases hjl : j < l.length
    · obtain ⟨⟨y1, y2⟩, hy⟩ : ∃ x, l[j]? = some x := ⟨l[j], List.getElem?_eq_getElem hjl⟩
      obtain ⟨b2, off2, rfl, hcell⟩ := SV.out.seq.elem hy
      have d0 := hcell 0 (.int .i64 (y1 : Int)) rfl
      have d1 := hcell 1 (.int .i64 (y2 : Int)) rfl
      simp only [Elem.pairs, Nat.add_zero] at d0 d1
      have hym := OK.out.2 (y1, y2) (List.mem_of_getElem? hy)
      simp only at hym
      have hy1 : y1 ≤ 64 := by omega
      have hy2 : y2 ≤ 64 := by omega
      have hlen : (l.take j).length ≤ 64 := by rw [List.length_take]; omega
      have HT := Lib.hid (take_snoc hy)
      clear hcell hym hy
      go_wp2_with (at_builtin; refine wpList_append_vec (E := Elem.pairs) rfl (.tmp 13) (.tmp 15) 40 rfl 67 i0 (.agg #[.int .i64 0, .int .i64 0]) 16 Try.underlying40 hi hz0 hz1 hz2 rfl (.slice a' n' cap') (.slice (some ⟨wr.heap.size + 1, 0, none⟩) 1 1) (l.take j) [(y1, y2)] rfl rfl ((V.out.alloc _).alloc _) (two_at (wr.alloc (.cells #[.int .i64 (y1 : Int), .int .i64 (y2 : Int)] 49)) _ y1 y2 _ (by simp)) ?_ ?_ ?_; (simp only [maxLen, List.length_cons, List.length_nil]; omega); (simp only [List.length_cons, List.length_nil]; omega); intro v2 w2 hv2 hu2 hin2; have V2 := Lib.hid hv2; have B2 := Lib.hid (below_in ((B.out.alloc sr _).alloc (Nat.le_trans sr (by simp)) _) (Nat.le_trans sr (by simp; omega)) N.out hu2); have U2 := Lib.hid hu2; have N2 := Lib.hid hin2; clear hv2 hu2 hin2)
      go_roundw
      case rel =>
        refine ⟨j + 1, by omega, by go_num, by rw [HT.out]; exact V2.out, fun b hb => ?_, ?_, B2.out⟩
        · rcases N2.out b hb with x | x
          · exact N.out b x
          · simp at x; omega
        · exact V1.out.upd (updFalse_of B2.out) (fun _ _ => id)
      case measure => simp [intOf]; omega
    · obtain rfl : j = l.length := by omega
      go_wp2
      go_ret
      refine ⟨_, rfl, by have := V.out; rwa [List.take_length, ← HL.out] at this, fun b hb => Nat.le_trans s1 (N.out b hb), B1.out.trans (B.out.mono s1)⟩
end Go.Proofs.Ytnkahcfkbpbhiaa
