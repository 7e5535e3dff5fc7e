/- The document's own arena (allotmentref04): New, Refuse, Given, free: contracts. -/
import Derived.Test.YtnkahcfkbpbhiaaArena6
import Derived.Test.YtnkahcfkbpbhiaaReads
import Derived.Deep.QuietTactic
import Derived.BigQuiet
namespace Go.Proofs.Ytnkahcfkbpbhiaa
open Go.RowKit ArenaMath
set_option linter.unusedVariables false

structure RefIs (w : World) (h : Nat) (s : St) (lv tv : Value) : Prop where
  head : Blk w h 43 #[.int .i64 (s.S : Int), .int .i64 (s.lim : Int), .int .i64 (s.r : Int), lv, tv]
  list : Vec Elem.pairs w lv s.l
  told : Vec Elem.bools w tv s.T
  nl : ¬ In lv h
  nt : ¬ In tv h
/-- What it became: it alone was written, and what it has now it had, or is new. -/
def RefTo (w : World) (h : Nat) (lv tv : Value) (s : St) (w' : World) : Prop :=
  (∃ lv' tv', RefIs w' h s lv' tv' ∧ (∀ k, In lv' k → In lv k ∨ w.heap.size ≤ k) ∧ ∀ k, In tv' k → In tv k ∨ w.heap.size ≤ k) ∧ Upd (fun k => k = h) w w'
section
variable {w w' : World} {h : Nat} {s : St} {lv tv : Value}
theorem RefIs.c0 (r : RefIs w h s lv tv) : w.cell? ⟨h, 0, none⟩ = some (.int .i64 (s.S : Int)) := r.head.cell 0
theorem RefIs.c1 (r : RefIs w h s lv tv) : w.cell? ⟨h, 1, none⟩ = some (.int .i64 (s.lim : Int)) := r.head.cell 1
theorem RefIs.c2 (r : RefIs w h s lv tv) : w.cell? ⟨h, 2, none⟩ = some (.int .i64 (s.r : Int)) := r.head.cell 2
theorem RefIs.c3 (r : RefIs w h s lv tv) : w.cell? ⟨h, 3, none⟩ = some lv := r.head.cell 3
theorem RefIs.c4 (r : RefIs w h s lv tv) : w.cell? ⟨h, 4, none⟩ = some tv := r.head.cell 4
theorem RefIs.upd {S : Nat → Prop} (r : RefIs w h s lv tv) (u : Upd S w w') (h1 : ¬ S h) (h2 : ∀ k, In lv k → ¬ S k) (h3 : ∀ k, In tv k → ¬ S k) : RefIs w' h s lv tv :=
  ⟨r.head.upd u h1, r.list.upd u h2, r.told.upd u h3, r.nl, r.nt⟩
theorem RefIs.grew (r : RefIs w h s lv tv) (hb : Below w.heap.size w w') : RefIs w' h s lv tv := r.upd (updFalse_of hb) id (fun _ _ => id) (fun _ _ => id)
theorem RefIs.alloc (r : RefIs w h s lv tv) (o : Obj) : RefIs (w.alloc o) h s lv tv := r.grew ((Below.refl _ w).alloc (Nat.le_refl _) o)
theorem RefIs.drew (r : RefIs w h s lv tv) : RefIs w.drew h s lv tv := r.upd ((Upd.refl (fun _ => False) w).drew) id (fun _ _ => id) (fun _ _ => id)
theorem RefTo.same (r : RefIs w h s lv tv) : RefTo w h lv tv s w := ⟨⟨lv, tv, r, fun k h => .inl h, fun k h => .inl h⟩, Upd.refl _ _⟩
theorem Vec.newAt {α : Type} {E : Elem α} (w : World) (t : TypeId) (g : Nat) (hg : g = w.heap.size) : Vec E (w.alloc (.cells #[] t)) (.slice (some ⟨g, 0, none⟩) 0 0) [] := by subst hg; exact Vec.new w t

theorem ref_new (S lim : Nat) (h1 : 1 ≤ S) (h2 : S ≤ 64) (h3 : lim ≤ S) (w : World) : Calls Try.prog 11 #[.int .i64 (S : Int), .int .i64 (lim : Int)] w fun e w' =>
    ∃ h, e = .returned (.tuple #[.pointer (some ⟨h, 0, none⟩), .bool true]) ∧ RefIs w' h ⟨S, lim, [], [], 0⟩ (.slice none 0 0) (.slice none 0 0) ∧ w.heap.size ≤ h ∧ Upd (fun _ => False) w w' := by
  have t0 : decide ((S : Int) < 1) = false := decide_eq_false (by omega)
  have t1 : decide ((64 : Int) < (S : Int)) = false := decide_eq_false (by omega)
  have t2 : decide ((lim : Int) < 0) = false := decide_eq_false (by omega)
  have t3 : decide (S < lim) = false := decide_eq_false (by omega)
  clear h1 h2 h3
  go_enter Try.func11, Try.ntmps11
  go_wp2
  go_ret2
  exact ⟨w.heap.size, rfl, ⟨Blk.new w _ _, Vec.nil _, Vec.nil _, (by intro h; cases h), (by intro h; cases h)⟩, Nat.le_refl _, (Upd.refl _ w).alloc _⟩
theorem ref_new_bad (a b : Int) (h : a < 1 ∨ 64 < a ∨ b < 0 ∨ a < b) (w : World) :
    Calls Try.prog 11 #[.int .i64 a, .int .i64 b] w fun e w' => e = .returned (.tuple #[.pointer none, .bool false]) ∧ w = w' := by
  by_cases c0 : a < 1
  · have t0 : decide (a < 1) = true := decide_eq_true c0
    clear h c0
    go_enter Try.func11, Try.ntmps11
    go_wp2
    go_ret2
    exact ⟨rfl, rfl⟩
  · have t0 : decide (a < 1) = false := decide_eq_false c0
    by_cases c1 : (64 : Int) < a
    · have t1 : decide ((64 : Int) < a) = true := decide_eq_true c1
      clear h c0 c1
      go_enter Try.func11, Try.ntmps11
      go_wp2
      go_ret2
      exact ⟨rfl, rfl⟩
    · have t1 : decide ((64 : Int) < a) = false := decide_eq_false c1
      by_cases c2 : b < 0
      · have t2 : decide (b < 0) = true := decide_eq_true c2
        clear h c0 c1 c2
        go_enter Try.func11, Try.ntmps11
        go_wp2
        go_ret2
        exact ⟨rfl, rfl⟩
      · have t2 : decide (b < 0) = false := decide_eq_false c2
        have t3 : decide (a < b) = true := decide_eq_true (by omega)
        clear h c0 c1 c2
        go_enter Try.func11, Try.ntmps11
        go_wp2
        go_ret2
        exact ⟨rfl, rfl⟩

theorem infoB1 : (Try.prog.info? 4).map (fun i => (i.zero, i.size, i.bytes)) = some (some (.bool false), 1, 1) := by kernel_rfl
theorem seq_is {α : Type} {E : Elem α} {w : World} {v : Value} {l : List α} (h : Seq E w v l) : ∃ A c, v = .slice A l.length c := by
  rcases h with ⟨b, off, c, rfl, _⟩ | ⟨rfl, A, c, rfl, _⟩
  · exact ⟨_, c, rfl⟩
  · exact ⟨A, c, rfl⟩
theorem ref_refuse_full (r : RefIs w h s lv tv) (hT : s.T.length ≤ 1000) {v : Value} {m : List Bool} (hv : Seq Elem.bools w v m) (hm : 1000 < s.T.length + m.length) (hm2 : m.length ≤ 2000) :
    Calls Try.prog 15 #[.pointer (some ⟨h, 0, none⟩), v] w fun e w' => e = .returned (.int .i64 4) ∧ w = w' := by
  have c4 := r.c4
  obtain ⟨a, cap, rfl, h1, h2⟩ := r.told.shape
  obtain ⟨A, vc, rfl⟩ := seq_is hv
  have t1 : decide ((1000 : Int) < (s.T.length : Int) + (m.length : Int)) = true := decide_eq_true (by omega)
  clear r hv
  go_enter Try.func15, Try.ntmps15
  go_wp2
  go_ret
  exact ⟨rfl, rfl⟩
theorem below_in {B : Nat} {a w1 w2 : World} {v1 : Value} (hb : Below B a w1) (hB : B ≤ w1.heap.size) (hin : ∀ k, In v1 k → B ≤ k) (u : Upd (In v1) w1 w2) : Below B a w2 := hb.trans (u.below hin hB)
theorem in_at {g n c k : Nat} (h : In (.slice (some ⟨g, 0, none⟩) n c) k) : k = g := by injection h with h; exact h.symm
theorem ref_refuse_ok (r : RefIs w h s lv tv) (hT : s.T.length ≤ 1000) {v : Value} {m : List Bool} (hv : Seq Elem.bools w v m) (hm : s.T.length + m.length ≤ 1000) :
    Calls Try.prog 15 #[.pointer (some ⟨h, 0, none⟩), v] w fun e w' => e = .returned (.int .i64 0) ∧ RefTo w h lv tv { s with T := s.T ++ m } w' := by
  obtain ⟨i0, hi, hz0, hz1, hz2⟩ := info_parts infoB1
  have c4 := r.c4
  obtain ⟨a, cap, rfl, h1, h2⟩ := r.told.shape
  obtain ⟨A, vc, rfl⟩ := seq_is hv
  have hB0 : Below w.heap.size w (w.alloc (.cells #[] 4)) := (Below.refl _ w).alloc (Nat.le_refl _) _
  have c4' : (w.alloc (.cells #[] 4)).cell? ⟨h, 4, none⟩ = some (.slice a s.T.length cap) := (r.alloc _).c4
  have t1 : decide ((1000 : Int) < (s.T.length : Int) + (m.length : Int)) = false := decide_eq_false (by omega)
  have hlt := r.head.lt
  have R := Lib.hid r; have HV := Lib.hid hv; have B0 := Lib.hid hB0
  clear r hv hB0
  go_enter Try.func15, Try.ntmps15
  go_wp2_with (first
    | (at_builtin; refine wpList_append_vec (E := Elem.bools) rfl (.tmp 15) (.tmp 19) 31 rfl 4 i0 (.bool false) 1 Try.underlying31 hi hz0 hz1 hz2 rfl (.slice (some ⟨w.heap.size, 0, none⟩) 0 0) (.slice a s.T.length cap) [] s.T rfl rfl (Vec.newAt w _ _ rfl) (R.out.alloc _).told.seq ?_ ?_ ?_; (simp only [maxLen, List.length_nil]; omega); (simp only [List.length_nil]; omega); intro v1 w1 hv1 hu1 hin1; have B1 := Lib.hid (below_in B0.out B0.out.size (fun k hk => Nat.le_of_eq (in_at hk).symm) hu1); have V1 := Lib.hid hv1; have N1 : Hid (∀ k, In v1 k → w.heap.size ≤ k) := Lib.hid (fun k hk => by rcases hin1 k hk with x | x; exact Nat.le_of_eq (in_at x).symm; exact Nat.le_trans B0.out.size x); clear hv1 hu1 hin1)
    | (at_builtin; refine wpList_append_vec (E := Elem.bools) rfl (.tmp 20) (.tmp 21) 31 rfl 4 i0 (.bool false) 1 Try.underlying31 hi hz0 hz1 hz2 rfl v1 (.slice A m.length vc) ([] ++ s.T) m rfl rfl V1.out (HV.out.below (Nat.le_refl _) B1.out) ?_ ?_ ?_; (simp only [maxLen, List.nil_append]; omega); (simp only [List.nil_append]; omega); intro v2 w2 hv2 hu2 hin2; obtain ⟨a2, n2, cap2, rfl⟩ := hv2.is; have B2 := Lib.hid (below_in B1.out B1.out.size N1.out hu2); have V2 := Lib.hid hv2; have N2 : Hid (∀ k, In (.slice a2 n2 cap2) k → w.heap.size ≤ k) := Lib.hid (fun k hk => by rcases hin2 k hk with x | x; exact N1.out k x; exact Nat.le_trans B1.out.size x); clear hv2 hu2 hin2; have f4 : w2.frozen? ⟨h, 4, none⟩ = false := (R.out.grew B2.out).head.frozen 4; have x4 := (R.out.grew B2.out).c4))
  go_wp2
  go_ret
  have r2 := R.out.grew B2.out
  have hu := upd_cell w2 h 4 (.slice a2 n2 cap2)
  have hne : ∀ k, In (.slice a2 n2 cap2) k → k ≠ h := fun k hk e => by have := N2.out k hk; omega
  refine ⟨rfl, ⟨lv, _, ⟨r2.head.put 4 _, r2.list.upd hu (fun k hk e => r2.nl (e ▸ hk)), V2.out.upd hu hne, r2.nl, fun hk => hne h hk rfl⟩, fun k hk => .inl hk, fun k hk => .inr (N2.out k hk)⟩, ((updFalse_of B2.out).mono (fun k hk => hk.elim)).trans hu⟩

/-! ### Given -/
def RSumming (w : World) (v : Value) (l : List (Nat × Nat)) (sm i : Value) (wr : World) : Prop :=
  ∃ j : Nat, j ≤ l.length ∧ sm = .int .i64 ((total (l.take j) : Nat) : Int) ∧ i = .int .i64 (j : Int) ∧ Vec Elem.pairs wr v l ∧ Below w.heap.size w wr
theorem take_total {l : List (Nat × Nat)} {j : Nat} {x : Nat × Nat} (h : l[j]? = some x) : total (l.take (j + 1)) = total (l.take j) + x.2 := by
  rw [List.take_add_one, h, total_append]; simp [total]
theorem take_total_le (l : List (Nat × Nat)) (j : Nat) : total (l.take j) ≤ total l := by
  have : total l = total (l.take j) + total (l.drop j) := by rw [← total_append, List.take_append_drop]
  omega
theorem ref_given (r : RefIs w h s lv tv) (ht : total s.l ≤ 1000) (hl : s.l.length ≤ 1000) :
    Calls Try.prog 21 #[.pointer (some ⟨h, 0, none⟩)] w fun e w' => e = .returned (.int .i64 ((total s.l : Nat) : Int)) ∧ Below w.heap.size w w' := by
  have c3 := r.c3
  obtain ⟨la, lcap, rfl, _, _⟩ := r.list.shape
  have V := Lib.hid r.list
  have HT := Lib.hid ht
  obtain ⟨l, hl'⟩ : ∃ l, s.l = l := ⟨_, rfl⟩
  rw [hl'] at c3 V HT hl ⊢
  clear r ht hl'
  go_enter Try.func21, Try.ntmps21
  go_wp2
  go_loopw [3, 11] (fun sm i wr => RSumming w (.slice la l.length lcap) l sm i wr) (fun sm i _ => l.length - (intOf i).toNat)
  case atStart => exact ⟨0, Nat.zero_le _, rfl, rfl, V.out, Below.refl _ _⟩
  case round =>
    obtain ⟨j, hj, rfl, rfl, hv, hb⟩ := hrel
    have V2 := Lib.hid hv; have B2 := Lib.hid hb
    have sr := hb.size
    clear hv hb
    by_cases hjl : j < l.length
    · obtain ⟨⟨x1, x2⟩, hx⟩ : ∃ x, l[j]? = some x := ⟨l[j], List.getElem?_eq_getElem hjl⟩
      obtain ⟨b2, off2, rfl, hcell⟩ := V2.out.seq.elem hx
      have d0 := hcell 0 (.int .i64 (x1 : Int)) rfl
      have d1 := hcell 1 (.int .i64 (x2 : Int)) rfl
      simp only [Elem.pairs, Nat.add_zero] at d0 d1
      have hst := take_total hx
      have hle := take_total_le l (j + 1)
      have h1 := HT.out
      obtain ⟨sm, hsm⟩ : ∃ sm, total (l.take j) = sm := ⟨_, rfl⟩
      rw [hsm] at hst ⊢
      simp only at hst
      have b1 : sm ≤ 1000 := by omega
      have b2 : x2 ≤ 1000 := by omega
      have HS := Lib.hid hst
      clear hx hcell hst hsm hle h1
      go_wp2
      go_roundw
      case rel => exact ⟨j + 1, by omega, by rw [HS.out]; go_num, by go_num, V2.out.alloc _, B2.out.alloc sr _⟩
      case measure => simp [intOf]; omega
    · obtain rfl : j = l.length := by omega
      have e0 : l.take l.length = l := List.take_length
      rw [e0]
      clear e0
      go_wp2
      go_ret
      exact ⟨rfl, B2.out⟩

/-! ### free -/
def Freeing (w : World) (v : Value) (l : List (Nat × Nat)) (a k bb : Nat) (i : Value) (wr : World) : Prop :=
  ∃ j : Nat, j ≤ l.length ∧ i = .int .i64 (j : Int) ∧ meetsTo l a k j = false ∧ Vec Elem.pairs wr v l ∧ Blk wr bb 67 #[.int .i64 (a : Int), .int .i64 (k : Int)] ∧ Below w.heap.size w wr
theorem ref_free (r : RefIs w h s lv tv) (hg : ArenaMath.Good s) (a k : Nat) (ha : a ≤ 64) (hk : k ≤ 64) (c : Bool) (hc : decide (clear s.l a k ∧ a + k ≤ s.S) = c) :
    Calls Try.prog 31 #[.pointer (some ⟨h, 0, none⟩), .agg #[.int .i64 (a : Int), .int .i64 (k : Int)]] w fun e w' => e = .returned (.bool c) ∧ Below w.heap.size w w' := by
  have hbx := Blk.new w 67 #[.int .i64 (a : Int), .int .i64 (k : Int)]
  obtain ⟨bb, hbb⟩ : ∃ bb, w.heap.size = bb := ⟨_, rfl⟩
  rw [hbb] at hbx
  have BX := Lib.hid hbx
  have c3 : (w.alloc (.cells #[.int .i64 (a : Int), .int .i64 (k : Int)] 67)).cell? ⟨h, 3, none⟩ = some lv := (r.alloc _).c3
  obtain ⟨la, lcap, rfl, _, _⟩ := r.list.shape
  have V := Lib.hid (r.list.alloc (.cells #[.int .i64 (a : Int), .int .i64 (k : Int)] 67))
  have OK := Lib.hid hg.ok
  have R := Lib.hid r
  have hll : s.l.length ≤ 64 := by have := length_le_total hg.ok; have := hg.sum; have := hg.lim; have := hg.S2; omega
  have hS := hg.S2
  have hlt := r.head.lt
  have HBB := Lib.hid hbb
  obtain ⟨l, hl'⟩ : ∃ l, s.l = l := ⟨_, rfl⟩
  obtain ⟨S, hS'⟩ : ∃ S, s.S = S := ⟨_, rfl⟩
  have c0 : Hid (∀ w', Below w.heap.size w w' → w'.cell? ⟨h, 0, none⟩ = some (.int .i64 (S : Int))) := Lib.hid fun w' hb => by rw [← hS']; exact (R.out.grew hb).c0
  rw [hS'] at OK hS hc
  rw [hl'] at c3 V hll OK hc
  have HC := Lib.hid hc
  clear r hg hbx hl' hS' hc
  go_enter Try.func31, Try.ntmps31
  go_wp2
  go_loopw [12] (fun i wr => Freeing w (.slice la l.length lcap) l a k bb i wr) (fun i _ => l.length - (intOf i).toNat)
  case atStart => exact ⟨0, Nat.zero_le _, rfl, meetsTo_zero _ _ _, V.out, BX.out, (Below.refl _ w).alloc (Nat.le_refl _) _⟩
  case round =>
    obtain ⟨j, hj, rfl, hm, hv, hbk, hb⟩ := hrel
    have V2 := Lib.hid hv; have B2 := Lib.hid hb; have K2 := Lib.hid hbk; have M2 := Lib.hid hm
    have sr := hb.size
    clear hv hb hbk hm
    by_cases hjl : j < l.length
    · obtain ⟨⟨y1, y2⟩, hy⟩ : ∃ x, l[j]? = some x := ⟨l[j], List.getElem?_eq_getElem hjl⟩
      obtain ⟨b2, off2, rfl, hcell⟩ := V2.out.seq.elem hy
      have d0 := hcell 0 (.int .i64 (y1 : Int)) rfl
      have d1 := hcell 1 (.int .i64 (y2 : Int)) rfl
      simp only [Elem.pairs, Nat.add_zero] at d0 d1
      have k0 : (wr.alloc (.cells #[.int .i64 (y1 : Int), .int .i64 (y2 : Int)] 67)).cell? ⟨bb, 0, none⟩ = some (.int .i64 (a : Int)) := (K2.out.alloc _).cell 0
      have k1 : (wr.alloc (.cells #[.int .i64 (y1 : Int), .int .i64 (y2 : Int)] 67)).cell? ⟨bb, 1, none⟩ = some (.int .i64 (k : Int)) := (K2.out.alloc _).cell 1
      have hym := OK.out.2 (y1, y2) (List.mem_of_getElem? hy)
      simp only at hym
      have hy1 : y1 ≤ 64 := by omega
      have hy2 : y2 ≤ 64 := by omega
      have hst := meetsTo_step (a := a) (k := k) hy
      rw [M2.out] at hst
      simp only [Bool.false_or] at hst
      have HY := Lib.hid (List.mem_of_getElem? hy)
      by_cases hp1 : a < y1 + y2
      · have q1 : decide ((a : Int) < (y1 : Int) + (y2 : Int)) = true := decide_eq_true (by omega)
        by_cases hp2 : y1 < a + k
        · have q2 : decide ((y1 : Int) < (a : Int) + (k : Int)) = true := decide_eq_true (by omega)
          have hno : decide (clear l a k ∧ a + k ≤ S) = false := decide_eq_false (fun hc => hc.1 _ HY.out ⟨hp1, hp2⟩)
          obtain rfl : c = false := HC.out.symm.trans hno
          clear hst hcell hym hy hp1 hp2 hno
          go_wp2
          go_ret
          exact ⟨rfl, B2.out.alloc sr _⟩
        · have q2 : decide ((y1 : Int) < (a : Int) + (k : Int)) = false := decide_eq_false (by omega)
          have HS : Hid (meetsTo l a k (j + 1) = false) := Lib.hid (by rw [hst]; simp [hp2])
          clear hst hcell hym hy hp1 hp2
          go_wp2
          go_roundw
          case rel => exact ⟨j + 1, by omega, by go_num, HS.out, V2.out.alloc _, K2.out.alloc _, B2.out.alloc sr _⟩
          case measure => simp [intOf]; omega
      · have q1 : decide ((a : Int) < (y1 : Int) + (y2 : Int)) = false := decide_eq_false (by omega)
        have HS : Hid (meetsTo l a k (j + 1) = false) := Lib.hid (by rw [hst]; simp [hp1])
        clear hst hcell hym hy hp1
        go_wp2
        go_roundw
        case rel => exact ⟨j + 1, by omega, by go_num, HS.out, V2.out.alloc _, K2.out.alloc _, B2.out.alloc sr _⟩
        case measure => simp [intOf]; omega
    · obtain rfl : j = l.length := by omega
      have hcl := meetsTo_all.1 M2.out
      have k0 : wr.cell? ⟨bb, 0, none⟩ = some (.int .i64 (a : Int)) := K2.out.cell 0
      have k1 : wr.cell? ⟨bb, 1, none⟩ = some (.int .i64 (k : Int)) := K2.out.cell 1
      have x0 := c0.out _ B2.out
      have e0 : decide (clear l a k ∧ a + k ≤ S) = decide (a + k ≤ S) := decide_eq_decide.2 ⟨fun x => x.2, fun x => ⟨hcl, x⟩⟩
      have q1 : decide ((a : Int) + (k : Int) ≤ (S : Int)) = c := by rw [← HC.out, e0]; exact decide_eq_decide.2 (by omega)
      clear e0 hcl
      go_wp2
      go_quiet (fail)
      go_wp2
      go_ret
      exact ⟨rfl, by first | exact (B2.out.trans ⟨rfl, rfl, rfl, Nat.le_refl _, fun _ _ => rfl⟩) | (have := B2.out; rw [HBB.out] at this; exact this.trans ⟨rfl, rfl, rfl, Nat.le_refl _, fun _ _ => rfl⟩)⟩
end
end Go.Proofs.Ytnkahcfkbpbhiaa
