/- Docs10: texts of layers below, joined (AliveG RefG1 RefG2 RefG3 RefP9 RefP9b RefP9c RefMarks RefMarks2 RefC2). -/
import Derived.Test.YtomepdgddpajoaaDoorGeoCl
import Derived.Test.YtomepdgddpajoaaDoorRunMath
import Derived.Test.YtomepdgddpajoaaDoorPageWh
import Derived.Test.YtomepdgddpajoaaDoorSame7
import Derived.Deep.RegionHeld3
import Derived.Deep.RegionLaw
import Derived.Deep.DeepCutAuto
import Derived.Deep.CutBlock
import Derived.Test.YtomepdgddpajoaaDoorPageFresh
import Derived.Test.YtomepdgddpajoaaDoorMarks10
import Derived.Test.YtomepdgddpajoaaDoorClasses10
import Derived.Deep.RegionWith
import Derived.RegionTactic
/- The laws' 'alive' of layer 6. -/
namespace Go.Proofs.YtomepdgddpajoaaDoor
open Go.RowKit GeoMath
set_option linter.unusedVariables false
set_option maxRecDepth 100000

end Go.Proofs.YtomepdgddpajoaaDoor
/- The document's own geo (allotmentref06): At, Addr: contracts. -/
namespace Go.Proofs.YtomepdgddpajoaaDoor
open Go.RowKit GeoMath
set_option linter.unusedVariables false
set_option maxRecDepth 100000

end Go.Proofs.YtomepdgddpajoaaDoor
/- The document's own runs (allotmentref06): May, End, Block: contracts. -/
namespace Go.Proofs.YtomepdgddpajoaaDoor
open Go.RowKit GeoMath
set_option linter.unusedVariables false
set_option maxRecDepth 100000

set_option maxHeartbeats 1000000 in
theorem ref_may (w : World) (f s : Nat) (n : Int) (hf : U64B f) (hs : U64B s) (hn : I64B n) : Calls Tryd.prog 84 #[runV f s n] w fun e w' => e = .returned (.bool (mayN f s n)) ∧ Below w.heap.size w w' := by
  obtain ⟨n1, n2⟩ := hn
  obtain ⟨b, hb⟩ : ∃ b, mayN f s n = b := ⟨_, rfl⟩
  have hc := may_cases (f := f) (s := s) (n := n)
  rw [hb] at hc ⊢
  clear hb
  unfold runV
  rcases hc with ⟨m, rfl, h1, h2, h3, h4, t6⟩ | ⟨rfl, hc⟩
  · obtain ⟨p1, p2⟩ := prod_bd h3 h2
    have t1 : decide ((1 : Int) ≤ (s : Int)) = true := decide_eq_true (by omega)
    have t2 : decide ((s : Int) ≤ 1048576) = true := decide_eq_true (by omega)
    have t3 : decide ((0 : Int) ≤ (m : Int)) = true := decide_eq_true (by omega)
    have t4 : decide ((m : Int) ≤ 1024) = true := decide_eq_true (by omega)
    have t5 : decide ((f : Int) ≤ 1048576) = true := decide_eq_true (by omega)
    have w1 : IntKind.u64.wrap (m : Int) = (m : Int) := u64_in _ ⟨by omega, by omega⟩
    go_enter Tryd.func84, Tryd.ntmps84
    go_wp2
    go_ret
    exact ⟨rfl, (Below.refl _ w).alloc (Nat.le_refl _) _⟩
  · rcases hc with t1 | ⟨t1, t2⟩ | ⟨t1, t2, t3⟩ | ⟨t1, t2, t3, t4⟩ | ⟨t1, t2, t3, t4, t5⟩
    all_goals
      go_enter Tryd.func84, Tryd.ntmps84
      go_wp2
      go_ret
      exact ⟨rfl, (Below.refl _ w).alloc (Nat.le_refl _) _⟩
theorem ref_block (w : World) (f s : Nat) (n i : Int) (hf : U64B f) (hs : U64B s) (hn : I64B n) (hi : I64B i) : Calls Tryd.prog 56 #[runV f s n, .int .i64 i] w fun e w' => e = .returned (.tuple #[.int .u64 ((blockN f s n i : Nat) : Int), .int .i64 (blockE f s n i)]) ∧ Below w.heap.size w w' := by
  have HM := Lib.hid (fun w => ref_may w f s n hf hs hn)
  obtain ⟨n1, n2⟩ := hn
  obtain ⟨i1, i2⟩ := hi
  unfold runV at HM ⊢
  cases hm : mayN f s n with
  | false =>
    obtain ⟨e1, e2⟩ := block_false (i := i) hm
    rw [e1, e2]
    rw [hm] at HM
    clear e1 e2 hm
    go_enter Tryd.func56, Tryd.ntmps56
    go_wp2_with fail
    refine (HM.out _).mono ?_; rintro e w1 ⟨rfl, hb⟩
    have B1 := Lib.hid (below_then ((Below.refl _ w).alloc (Nat.le_refl _) _) (by simp) hb)
    clear hb
    go_wp2
    go_ret2
    exact ⟨rfl, B1.out⟩
  | true =>
    rw [hm] at HM
    obtain ⟨m, rfl, h1, h2, h3, h4, h5⟩ := may_true hm
    by_cases hin : 0 ≤ i ∧ i < (m : Int)
    · obtain ⟨j, rfl⟩ := Int.eq_ofNat_of_zero_le hin.1
      have hj : j < m := by omega
      obtain ⟨e1, e2⟩ := block_true hm hj
      rw [e1, e2]
      have H5 := Lib.hid h5
      obtain ⟨p1, p2⟩ := prod_bd (show j ≤ 1024 by omega) h2
      have t1 : decide ((j : Int) < 0) = false := decide_eq_false (by omega)
      have t2 : decide ((m : Int) ≤ (j : Int)) = false := decide_eq_false (by omega)
      have t3 : decide (m ≤ j) = false := decide_eq_false (by omega)
      have w1 : IntKind.u64.wrap (j : Int) = (j : Int) := u64_in _ ⟨by omega, by omega⟩
      clear e1 e2 hm h5 hin
      go_enter Tryd.func56, Tryd.ntmps56
      go_wp2_with fail
      refine (HM.out _).mono ?_; rintro e w1 ⟨rfl, hb⟩
      have B1 := Lib.hid (below_then ((Below.refl _ w).alloc (Nat.le_refl _) _) (by simp) hb)
      have K := (Blk.new w 108 #[.int .u64 (f : Int), .int .u64 (s : Int), .int .i64 (m : Int)]).grew hb
      obtain ⟨bq, hbq⟩ : ∃ bq, w.heap.size = bq := ⟨_, rfl⟩
      rw [hbq] at K
      have r0 : w1.cell? ⟨bq, 0, none⟩ = some (.int .u64 (f : Int)) := K.cell 0
      have r1 : w1.cell? ⟨bq, 1, none⟩ = some (.int .u64 (s : Int)) := K.cell 1
      have r2 : w1.cell? ⟨bq, 2, none⟩ = some (.int .i64 (m : Int)) := K.cell 2
      clear hb K
      go_wp2
      go_ret2
      exact ⟨rfl, B1.out⟩
    · obtain ⟨e1, e2⟩ := block_out hm hin
      rw [e1, e2]
      have hcase : (decide (i < 0) = true) ∨ (decide (i < 0) = false ∧ decide ((m : Int) ≤ i) = true) := by
        simp only [decide_eq_true_iff, decide_eq_false_iff_not]; omega
      clear e1 e2 hm h5 hin
      rcases hcase with t1 | ⟨t1, t2⟩
      all_goals
        go_enter Tryd.func56, Tryd.ntmps56
        go_wp2_with fail
        refine (HM.out _).mono ?_; rintro e w1 ⟨rfl, hb⟩
        have B1 := Lib.hid (below_then ((Below.refl _ w).alloc (Nat.le_refl _) _) (by simp) hb)
        have K := (Blk.new w 108 #[.int .u64 (f : Int), .int .u64 (s : Int), .int .i64 (m : Int)]).grew hb
        obtain ⟨bq, hbq⟩ : ∃ bq, w.heap.size = bq := ⟨_, rfl⟩
        rw [hbq] at K
        have r2 : w1.cell? ⟨bq, 2, none⟩ = some (.int .i64 (m : Int)) := K.cell 2
        clear hb K
        go_wp2
        go_ret2
        exact ⟨rfl, B1.out⟩
end Go.Proofs.YtomepdgddpajoaaDoor
/- The document's own runs (allotmentref06): Index, In, Meet: contracts. -/
namespace Go.Proofs.YtomepdgddpajoaaDoor
open Go.RowKit GeoMath
set_option linter.unusedVariables false
set_option maxRecDepth 100000

/-- Where an address stands to block i. -/
theorem stands (f s i a : Nat) : (a = f + i * s ∧ ((a : Int) == (f : Int) + (i : Int) * (s : Int)) = true) ∨
    ((f + i * s < a ∧ a < f + i * s + s) ∧ ((a : Int) == (f : Int) + (i : Int) * (s : Int)) = false ∧ decide ((f : Int) + (i : Int) * (s : Int) < (a : Int)) = true ∧ decide ((a : Int) < (f : Int) + (i : Int) * (s : Int) + (s : Int)) = true) ∨
    (¬ (f + i * s ≤ a ∧ a < f + i * s + s) ∧ ((a : Int) == (f : Int) + (i : Int) * (s : Int)) = false ∧ decide ((f : Int) + (i : Int) * (s : Int) < (a : Int)) = false) ∨
    (¬ (f + i * s ≤ a ∧ a < f + i * s + s) ∧ ((a : Int) == (f : Int) + (i : Int) * (s : Int)) = false ∧ decide ((f : Int) + (i : Int) * (s : Int) < (a : Int)) = true ∧ decide ((a : Int) < (f : Int) + (i : Int) * (s : Int) + (s : Int)) = false) ∨
    (s = 0) := by
  rw [← cast_mul]
  obtain ⟨q, hq⟩ : ∃ q, i * s = q := ⟨_, rfl⟩
  rw [hq]
  by_cases h1 : a = f + q
  · exact Or.inl ⟨h1, by rw [beq_iff_eq]; omega⟩
  · have e : ((a : Int) == (f : Int) + (q : Int)) = false := by rw [beq_eq_false_iff_ne]; omega
    by_cases h2 : f + q < a
    · by_cases h3 : a < f + q + s
      · exact Or.inr (Or.inl ⟨⟨h2, h3⟩, e, decide_eq_true (by omega), decide_eq_true (by omega)⟩)
      · exact Or.inr (Or.inr (Or.inr (Or.inl ⟨by omega, e, decide_eq_true (by omega), decide_eq_false (by omega)⟩)))
    · exact Or.inr (Or.inr (Or.inl ⟨by omega, e, decide_eq_false (by omega)⟩))
end Go.Proofs.YtomepdgddpajoaaDoor
/- The document's own page (allotmentref09): Given, Back, Post, Gather: contracts. -/
namespace Go.Proofs.YtomepdgddpajoaaDoor
open Go.RowKit ListMath PageMath GeoMath
set_option linter.unusedVariables false
set_option maxRecDepth 100000

/-- A row of numbers in a slice, in no block of A. -/
def Rw (A : Nat → Prop) (w : World) (a : Option Addr) (cap : Nat) (l : List Nat) : Prop :=
  Seq Elem.u64s w (.slice a l.length cap) l ∧ l.length ≤ cap ∧ cap ≤ 9223372036854775807 ∧ ∀ b, In (.slice a l.length cap) b → ¬ A b ∧ b < w.heap.size
theorem Rw.upd {A Z : Nat → Prop} {w w' : World} {a : Option Addr} {cap : Nat} {l : List Nat} (h : Rw A w a cap l) (u : Upd Z w w') (hZ : ∀ b, Z b → A b) : Rw A w' a cap l :=
  ⟨h.1.upd u fun b hb hz => (h.2.2.2 b hb).1 (hZ b hz), h.2.1, h.2.2.1, fun b hb => ⟨(h.2.2.2 b hb).1, Nat.lt_of_lt_of_le (h.2.2.2 b hb).2 u.size⟩⟩
theorem Rw.nil (A : Nat → Prop) (w : World) : Rw A w none 0 [] := ⟨Seq.nil _, Nat.le_refl _, by decide, fun b hb => by cases hb⟩
theorem Rw.re {A A' : Nat → Prop} {w : World} {a : Option Addr} {cap : Nat} {l : List Nat} (h : Rw A w a cap l) (hA : ∀ b, A' b → A b ∨ w.heap.size ≤ b) : Rw A' w a cap l :=
  ⟨h.1, h.2.1, h.2.2.1, fun b hb => ⟨fun x => by rcases hA b x with y | y; exact (h.2.2.2 b hb).1 y; have := (h.2.2.2 b hb).2; omega, (h.2.2.2 b hb).2⟩⟩
/-- The cells of the document's page. -/
def pgC (S : PG) (vF vG vP : Value) : Array Value := #[.int .u64 (S.f : Int), .int .u64 (S.s : Int), .int .i64 (S.n : Int), .int .i64 (S.made : Int), .int .i64 (S.used : Int), vF, vG, vP, .int .u64 (S.ct : Int), .int .i64 (S.ca : Int)]
/-- The document's page at block q: the state S, the posted row P; its rows lie in no block of A, nor in q. -/
structure RP (A : Nat → Prop) (w : World) (q : Nat) (S : PG) (P : List Nat) : Prop where
  out : ∃ aF cF aG cG aP cP, Blk w q 110 (pgC S (.slice aF S.F.length cF) (.slice aG S.G.length cG) (.slice aP P.length cP)) ∧ Rw (fun b => A b ∨ b = q) w aF cF S.F ∧ Rw (fun b => A b ∨ b = q) w aG cG S.G ∧ Rw (fun b => A b ∨ b = q) w aP cP P
  nq : ¬ A q
/-- Numbers that fit. -/
structure FitP (S : PG) : Prop where
  may : mayN S.f S.s (S.n : Int) = true
  f : S.f ≤ 1048576
  s : S.s ≤ 1048576
  n : S.n ≤ 1024
  made : S.made ≤ S.n
  used : S.used ≤ 1000000
  ct : S.ct ≤ 1000000
  ca : S.ca ≤ 1000000
  lF : S.F.length ≤ 1024
  lG : S.G.length ≤ 1024
section
variable {A A' Z : Nat → Prop} {w w' : World} {q : Nat} {S : PG} {P : List Nat}
theorem RP.lt (h : RP A w q S P) : q < w.heap.size := by obtain ⟨_, _, _, _, _, _, k, _⟩ := h.out; exact k.lt
theorem RP.upd (h : RP A w q S P) (u : Upd Z w w') (hZ : ∀ b, Z b → A b) : RP A w' q S P := by
  obtain ⟨aF, cF, aG, cG, aP, cP, k, h1, h2, h3⟩ := h.out
  exact ⟨⟨aF, cF, aG, cG, aP, cP, k.upd u (fun x => h.nq (hZ q x)), h1.upd u fun b x => Or.inl (hZ b x), h2.upd u fun b x => Or.inl (hZ b x), h3.upd u fun b x => Or.inl (hZ b x)⟩, h.nq⟩
theorem RP.grew (h : RP A w q S P) (hb : Below w.heap.size w w') : RP A w' q S P := h.upd (updFalse_of hb) fun _ x => x.elim
theorem RP.alloc (h : RP A w q S P) (o : Obj) : RP A (w.alloc o) q S P := h.grew ((Below.refl _ w).alloc (Nat.le_refl _) o)
theorem RP.drew (h : RP A w q S P) : RP A w.drew q S P := h.grew (Below.refl _ _).drew
theorem RP.re (h : RP A w q S P) (hA : ∀ b, A' b → A b ∨ w.heap.size ≤ b) : RP A' w q S P := by
  obtain ⟨aF, cF, aG, cG, aP, cP, k, h1, h2, h3⟩ := h.out
  have hA2 : ∀ b, (A' b ∨ b = q) → (A b ∨ b = q) ∨ w.heap.size ≤ b := fun b hb => by
    rcases hb with x | x
    · rcases hA b x with y | y
      · exact Or.inl (Or.inl y)
      · exact Or.inr y
    · exact Or.inl (Or.inr x)
  exact ⟨⟨aF, cF, aG, cG, aP, cP, k, h1.re hA2, h2.re hA2, h3.re hA2⟩, fun x => by rcases hA q x with y | y; exact h.nq y; have := k.lt; omega⟩
end
/-- Another row ahead, in a new block. -/
theorem Rw.new {A : Nat → Prop} {w w' : World} {v : Value} {l : List Nat} (hv : Vec Elem.u64s w' v l) (hin : ∀ b, In v b → w.heap.size ≤ b) (hA : ∀ b, A b → b < w.heap.size) : ∃ a cap, v = .slice a l.length cap ∧ Rw A w' a cap l := by
  obtain ⟨a, cap, rfl, h1, h2⟩ := hv.slice'
  exact ⟨a, cap, rfl, hv.seq, h1, h2, fun b hb => ⟨fun x => by have h3 := hin b hb; have h4 := hA b x; omega, hv.lt hb⟩⟩
theorem i64s_in (n : Int) (h : -9223372036854775808 ≤ n ∧ n ≤ 9223372036854775807) : IntKind.i64.wrap n = n := by
  simp [IntKind.wrap, IntKind.bits, IntKind.signed]; omega
end Go.Proofs.YtomepdgddpajoaaDoor
/- The document's own page (allotmentref09): Back, Post, Gather: contracts. -/
namespace Go.Proofs.YtomepdgddpajoaaDoor
open Go.RowKit ListMath PageMath GeoMath
set_option linter.unusedVariables false
set_option maxRecDepth 100000

theorem vec_oneAt (w : World) (t : TypeId) (x g : Nat) (hg : g = w.heap.size) : Vec Elem.u64s (w.alloc (.cells #[.int .u64 (x : Int)] t)) (.slice (some ⟨g, 0, none⟩) 1 1) [x] := by
  subst hg
  exact Vec.row (Blk.new w t _) [x] 1 (Nat.le_refl _) (by simp [maxLen]) (by simp [Elem.u64s]) (by simp [Elem.u64s, Elem.all])
theorem vec_newAt9 (w : World) (t : TypeId) (g : Nat) (hg : g = w.heap.size) : Vec Elem.u64s (w.alloc (.cells #[] t)) (.slice (some ⟨g, 0, none⟩) 0 0) [] := by subst hg; exact Vec.new w t
theorem rw_fresh {A : Nat → Prop} {w : World} {q b1 : Nat} {a : Option Addr} {cap : Nat} {l : List Nat} (hv : Vec Elem.u64s w (.slice a l.length cap) l) (h1 : l.length ≤ cap) (h2 : cap ≤ 9223372036854775807) (hin : ∀ j, In (.slice a l.length cap) j → b1 ≤ j) (hA : ∀ b, A b → b < b1) (hq : q < b1) : Rw (fun b => A b ∨ b = q) w a cap l :=
  ⟨hv.seq, h1, h2, fun b hb => ⟨fun x => by
    have h3 := hin b hb
    rcases x with x | x
    · have := hA b x; omega
    · omega, hv.lt hb⟩⟩
theorem in_at9 {g n c k : Nat} (h : In (.slice (some ⟨g, 0, none⟩) n c) k) : g = k := in_blk h
/-- Behind the row's store. -/
def Gath9 (W1 : World) (q : Nat) (P G : List Nat) (wx : World) : Prop :=
  ∃ a3 cap3 x2, wx = x2.setCell ⟨q, 6, none⟩ (.slice a3 (P.length + G.length) cap3) ∧ Below W1.heap.size W1 x2 ∧ Vec Elem.u64s x2 (.slice a3 (P ++ G).length cap3) (P ++ G) ∧ (P ++ G).length ≤ cap3 ∧ cap3 ≤ 9223372036854775807 ∧ ∀ k, In (.slice a3 (P ++ G).length cap3) k → W1.heap.size ≤ k
theorem fresh_append {A : Nat → Prop} {W1 x : World} {b1 : Nat} (hb : Below b1 W1 x) (hs : W1.heap.size = b1) : Below W1.heap.size W1 x := by rw [hs]; exact hb
end Go.Proofs.YtomepdgddpajoaaDoor
/- The document's own page (allotmentref09): Alloc: contract. -/
namespace Go.Proofs.YtomepdgddpajoaaDoor
open Go.RowKit ListMath PageMath GeoMath
set_option linter.unusedVariables false
set_option maxRecDepth 100000

theorem cut_tail {α : Type} {E : Elem α} {P : Program} (w0 : World) (t : TypeId) (ht : P.underlying t = some (.slice (P.elem t))) (hsz : ∀ w, (sizeOf (P.elem t)).run P w = .ok E.size w) (a : Option Addr) (n cap k : Nat) (hk : k ≤ n) (hn : n ≤ cap) :
    ∃ a2, (∀ w, (Instr.slice t (.slice a n cap) (some (.int .i64 (k : Int))) none none).run P w = .ok (.slice a2 (n - k) (cap - k)) w) ∧ (∀ b, In (.slice a2 (n - k) (cap - k)) b → In (.slice a n cap) b) ∧ ∀ w l, Seq E w (.slice a n cap) l → Seq E w (.slice a2 (n - k) (cap - k)) (l.drop k) := by
  obtain ⟨sv, h1, h2, h3, _⟩ := cut_from (E := E) (P := P) t ht hsz a n cap k hk hn
  have e := h1 w0
  rw [run_slice_l (P := P) (w := w0) t a n cap ht .i64 (k : Int) (by omega) (by omega), hsz] at e
  simp only [Result.andThen_ok, Int.toNat_natCast] at e
  obtain ⟨a2, h⟩ : ∃ a2, sliced a k n cap E.size = .slice a2 (n - k) (cap - k) := ⟨_, rfl⟩
  have e2 : sv = .slice a2 (n - k) (cap - k) := by
    injection e with e _
    rw [← e]; exact h
  subst e2
  exact ⟨a2, h1, h2, h3⟩
theorem sizeU9 (w : World) : (sizeOf (Tryd.prog.elem 82)).run Tryd.prog w = .ok Elem.u64s.size w := by kernel_rfl
/-- The local row, where the free one has none. -/
def swapP (S : PG) : PG := if S.F = [] then { S with F := S.G, G := [] } else S
/-- So many more are made. -/
def moreP (S : PG) (k : Nat) : PG := { S with F := news S.f S.s S.made k, made := S.made + k }
theorem swap_some {S : PG} (h : (swapP S).F ≠ []) : refill S = swapP S := by
  unfold swapP at h ⊢
  by_cases h1 : S.F = []
  · rw [if_pos h1] at h ⊢
    exact (refill_local h1 h).1
  · rw [if_neg h1]; exact (refill_some h1).1
theorem swap_none {S : PG} (h : (swapP S).F = []) : S.F = [] ∧ S.G = [] ∧ swapP S = S := by
  unfold swapP at h ⊢
  by_cases h1 : S.F = []
  · rw [if_pos h1] at h ⊢
    have h2 : S.G = [] := h
    refine ⟨h1, h2, ?_⟩
    cases S
    simp_all
  · rw [if_neg h1] at h; exact absurd h h1
theorem swap_more {S : PG} (h : (swapP S).F = []) : refill S = moreP S (min 4 (S.n - S.made)) := by
  obtain ⟨h1, h2, _⟩ := swap_none h
  exact (refill_more h1 h2).1
theorem refill_none {S : PG} (h : (refill S).F = []) : refill S = S := by
  by_cases h1 : (swapP S).F = []
  · rw [swap_more h1] at h ⊢
    have h2 : (news S.f S.s S.made (min 4 (S.n - S.made))).length = 0 := by
      have h3 : news S.f S.s S.made (min 4 (S.n - S.made)) = [] := h
      rw [h3]; rfl
    rw [news_len] at h2
    rw [h2]
    obtain ⟨h3, _, _⟩ := swap_none h1
    unfold moreP
    cases S
    simp_all [news]
  · rw [swap_some h1] at h
    exact absurd h h1
theorem more_zero {S : PG} (h : S.F = []) : moreP S 0 = S := by
  unfold moreP
  cases S
  simp_all [news]
theorem more_next (S : PG) (k x : Nat) (hx : x = S.f + (S.made + k) * S.s) : moreP S (k + 1) = { moreP S k with F := (moreP S k).F ++ [x], made := (moreP S k).made + 1 } := by
  subst hx
  unfold moreP
  rw [news_snoc]
  rfl
theorem refill_parts (S : PG) : (refill S).f = S.f ∧ (refill S).s = S.s ∧ (refill S).n = S.n ∧ (refill S).used = S.used ∧ (refill S).ct = S.ct ∧ (refill S).ca = S.ca := by
  unfold refill; split
  · exact ⟨rfl, rfl, rfl, rfl, rfl, rfl⟩
  · split <;> exact ⟨rfl, rfl, rfl, rfl, rfl, rfl⟩
def Mored (A : Nat → Prop) (w : World) (q : Nat) (S : PG) (P : List Nat) (m : Nat) (i : Value) (wr : World) : Prop :=
  ∃ k : Nat, k ≤ m ∧ i = .int .i64 (k : Int) ∧ RP A wr q (moreP S k) P ∧ Upd (fun b => b = q) w wr
set_option maxRecDepth 100000 in
set_option maxHeartbeats 4000000 in
theorem refp_alloc (w : World) {A : Nat → Prop} {q : Nat} {S : PG} {P : List Nat} (h : RP A w q S P) (f : FitP S) (hx : ∀ x ∈ (refill S).F, U64B x) (hA : ∀ b, A b → b < w.heap.size) :
    Calls Tryd.prog 22 #[.pointer (some ⟨q, 0, none⟩)] w fun e w' => e = .returned (.tuple #[.int .u64 ((allocP S).2.1 : Int), .int .i64 (allocP S).2.2]) ∧ RP A w' q (allocP S).1 P ∧ Upd (fun b => b = q) w w' := by
  obtain ⟨i0, hi, hz0, hz1, hz2⟩ := info_parts infoU64
  obtain ⟨⟨SA, XA, EA⟩, hE⟩ : ∃ z, allocP S = z := ⟨_, rfl⟩
  rw [hE]
  have HE := Lib.hid hE
  clear hE
  have hfb := f.f; have hsb := f.s; have hnb := f.n; have hmd := f.made; have husb := f.used; have hlF := f.lF; have hlG := f.lG; have hmay := f.may
  have HX := Lib.hid hx; have HA := Lib.hid hA; have HQ := Lib.hid h.nq; have MAY := Lib.hid hmay
  obtain ⟨aF, cF, aG, cG, aP, cP, k, rF, rG, rP⟩ := h.out
  have hqw := h.lt
  obtain ⟨nF, hnF⟩ : ∃ n, S.F.length = n := ⟨_, rfl⟩
  obtain ⟨nG, hnG⟩ : ∃ n, S.G.length = n := ⟨_, rfl⟩
  have c5 : w.cell? ⟨q, 5, none⟩ = some (.slice aF nF cF) := by rw [← hnF]; exact k.cell 5
  have c6 : w.cell? ⟨q, 6, none⟩ = some (.slice aG nG cG) := by rw [← hnG]; exact k.cell 6
  have f5 := k.frozen 5
  have f6 := k.frozen 6
  have KK := Lib.hid k; have RF := Lib.hid rF; have RG := Lib.hid rG; have RPP := Lib.hid rP; have R0 := Lib.hid h; have NF := Lib.hid hnF; have NG := Lib.hid hnG
  clear k rF rG rP h hx hA hmay
  go_enter Tryd.func22, Tryd.ntmps22
  go_upto_if 13 with fail
  go_cut [2] (fun s wx => s = .int .u64 0 ∧ RP A wx q (swapP S) P ∧ Upd (fun b => b = q) w wx)
  case first =>
    by_cases h0 : nF = 0
    · have t1 : ((nF : Int) == 0) = true := by rw [beq_iff_eq]; omega
      have hFn : S.F = [] := List.length_eq_zero_iff.1 (by rw [NF.out]; exact h0)
      have hsw : swapP S = { S with F := S.G, G := [] } := if_pos hFn
      have HSW := Lib.hid hsw
      clear h0 hFn hsw
      go_wp2_with fail
      go_meet
      have u1 : Upd (fun b => b = q) w ((w.setCell ⟨q, 5, none⟩ (.slice aG nG cG)).setCell ⟨q, 6, none⟩ (.slice none 0 0)) := ((Upd.refl (fun b => b = q) w).setCell (p := ⟨q, 5, none⟩) (.inl rfl) _).setCell (p := ⟨q, 6, none⟩) (.inl rfl) _
      refine ⟨rfl, ?_, u1⟩
      rw [HSW.out]
      have k1 := (KK.out.put 5 (.slice aG nG cG)).put 6 (.slice none 0 0)
      rw [← NG.out] at k1 u1 ⊢
      exact ⟨⟨aG, cG, none, 0, aP, cP, k1, RG.out.upd u1 (fun _ h => Or.inr h), Rw.nil _ _, RPP.out.upd u1 (fun _ h => Or.inr h)⟩, HQ.out⟩
    · have t1 : ((nF : Int) == 0) = false := by rw [beq_eq_false_iff_ne]; omega
      have hsw : swapP S = S := if_neg (fun e => h0 (by rw [← NF.out, e]; rfl))
      have HSW := Lib.hid hsw
      clear h0 hsw
      go_wp2_with fail
      go_meet
      rw [HSW.out]
      exact ⟨rfl, R0.out, Upd.refl _ _⟩
  case rest =>
    obtain ⟨rfl, hr1, hu1⟩ := hcut
    have hlen1 : (swapP S).F.length ≤ 1024 := by unfold swapP; split; exact f.lG; exact f.lF
    obtain ⟨aF1, cF1, aG1, cG1, aP1, cP1, k1, rF1, rG1, rP1⟩ := hr1.out
    obtain ⟨n1, hn1⟩ : ∃ n, (swapP S).F.length = n := ⟨_, rfl⟩
    have d5 : wc.cell? ⟨q, 5, none⟩ = some (.slice aF1 n1 cF1) := by rw [← hn1]; exact k1.cell 5
    have R1 := Lib.hid hr1; have U1 := Lib.hid hu1; have N1 := Lib.hid hn1
    clear hr1 hu1 k1 rF1 rG1 rP1 c5 c6 f5 f6 KK RF RG RPP R0
    go_upto_if 29 with fail
    go_cut [2] (fun s wx => s = .int .u64 0 ∧ RP A wx q (refill S) P ∧ Upd (fun b => b = q) w wx)
    case first =>
      by_cases h0 : n1 = 0
      · have t1 : ((n1 : Int) == 0) = true := by rw [beq_iff_eq]; omega
        rw [t1]
        have hFn : (swapP S).F = [] := List.length_eq_zero_iff.1 (by rw [N1.out]; exact h0)
        obtain ⟨g1, g2, g3⟩ := swap_none hFn
        have hrf := swap_more hFn
        have hr2 := R1.out
        rw [g3] at hr2
        have hm0 : moreP S 0 = S := more_zero g1
        rw [← hm0] at hr2
        obtain ⟨m, hm⟩ : ∃ m, min 4 (S.n - S.made) = m := ⟨_, rfl⟩
        rw [hm] at hrf
        obtain ⟨md, hmd2⟩ : ∃ x, S.made = x := ⟨_, rfl⟩
        obtain ⟨nn, hnn⟩ : ∃ x, S.n = x := ⟨_, rfl⟩
        rw [hmd2, hnn] at hmd hm
        rw [hnn] at hnb
        have R2 := Lib.hid hr2; have HRF := Lib.hid hrf; have MD := Lib.hid hmd2; have NN := Lib.hid hnn
        clear h0 hFn g1 g2 g3 hr2 hm0 hrf d5 hmd2 hnn R1
        obtain ⟨ff, hff⟩ : ∃ x, S.f = x := ⟨_, rfl⟩
        obtain ⟨ss, hss⟩ : ∃ x, S.s = x := ⟨_, rfl⟩
        rw [hff] at hfb; rw [hss] at hsb
        have FF := Lib.hid hff; have SS := Lib.hid hss
        have hmay2 := MAY.out
        rw [hff, hss, NN.out] at hmay2
        have MAY2 := Lib.hid hmay2
        clear hff hss hmay2
        go_wp2_with fail
        go_loopw [4] (fun i wr => Mored A w q S P m i wr) (fun i _ => 4 - (intOf i).toNat)
        case atStart => exact ⟨0, Nat.zero_le _, rfl, R2.out, U1.out⟩
        case round =>
          obtain ⟨k, hk, rfl, hr, hu⟩ := hrel
          obtain ⟨aF2, cF2, aG2, cG2, aP2, cP2, k2, rF2, rG2, rP2⟩ := hr.out
          have hlen : (moreP S k).F.length = k := news_len ..
          obtain ⟨mk, hmk⟩ : ∃ x, md + k = x := ⟨_, rfl⟩
          have hmm : (moreP S k).made = mk := by show S.made + k = mk; rw [MD.out]; exact hmk
          have c3 : wr.cell? ⟨q, 3, none⟩ = some (.int .i64 (mk : Int)) := by rw [← hmm]; exact k2.cell 3
          have c2 : wr.cell? ⟨q, 2, none⟩ = some (.int .i64 (nn : Int)) := by rw [← NN.out]; exact k2.cell 2
          have K2 := Lib.hid k2; have RF2 := Lib.hid rF2; have RG2 := Lib.hid rG2; have RP2 := Lib.hid rP2; have RR := Lib.hid hr; have UU := Lib.hid hu; have HLN := Lib.hid hlen; have HMK := Lib.hid hmk; have HMM := Lib.hid hmm
          by_cases hkm : k < m
          · have t1 : decide ((k : Int) < 4) = true := decide_eq_true (by omega)
            have t2 : decide ((mk : Int) < (nn : Int)) = true := decide_eq_true (by omega)
            have t2' : decide (mk < nn) = true := decide_eq_true (by omega)
            have hmkb : mk ≤ 1024 := by omega
            have hk4' : k < 4 := by omega
            have BK := Lib.hid (fun w' => ref_block w' ff ss (nn : Int) (mk : Int) (show ff ≤ _ by omega) (show ss ≤ _ by omega) ⟨by omega, by omega⟩ ⟨by omega, by omega⟩)
            obtain ⟨e1, e2⟩ := block_true MAY2.out (show mk < nn by omega)
            rw [e2] at BK
            obtain ⟨X, hX⟩ : ∃ X, blockN ff ss (nn : Int) (mk : Int) = X := ⟨_, rfl⟩
            rw [hX] at BK e1
            have hX2 : X = ff + mk * ss := by have := cast_mul mk ss; omega
            have HX2 := Lib.hid hX2
            have hXb := (may_iff.1 MAY2.out).2.2.2.2.2
            unfold runV at BK
            have HKM := Lib.hid (show k + 1 ≤ m by omega)
            clear hkm k2 rF2 rG2 rP2 hr hu hlen hmm e1 e2 hX hX2 hXb hmk
            go_wp2_with fail
            go_quiet (fail)
            generalize hW5 : wr.drewN _ = W5
            have b5 : Below wr.heap.size wr W5 := by rw [← hW5]; exact below_drewN (Below.refl _ wr) _
            have k5 := K2.out.grew b5
            have c0 : W5.cell? ⟨q, 0, none⟩ = some (.int .u64 (ff : Int)) := by rw [← FF.out]; exact k5.cell 0
            have c1 : W5.cell? ⟨q, 1, none⟩ = some (.int .u64 (ss : Int)) := by rw [← SS.out]; exact k5.cell 1
            have c2 : W5.cell? ⟨q, 2, none⟩ = some (.int .i64 (nn : Int)) := by rw [← NN.out]; exact k5.cell 2
            have c3 : W5.cell? ⟨q, 3, none⟩ = some (.int .i64 (mk : Int)) := by rw [← HMM.out]; exact k5.cell 3
            have K5 := Lib.hid k5; have B5 := Lib.hid b5
            clear hW5 b5 k5
            go_wp2_with fail
            go_region_held3 (fun w' => w'.cell? ⟨q, 0, none⟩ = some (.int .u64 (ff : Int)) ∧ w'.cell? ⟨q, 1, none⟩ = some (.int .u64 (ss : Int)) ∧ w'.cell? ⟨q, 2, none⟩ = some (.int .i64 (nn : Int)) ∧ w'.cell? ⟨q, 3, none⟩ = some (.int .i64 (mk : Int))) (first | go_keep | exact ⟨c0, c1, c2, c3⟩)
              (first
                | (go_at_call 56; (first | (with_reducible refine (BK.out W5.drew).mono ?_) | (with_reducible refine (BK.out W5).mono ?_)); rintro e w6 ⟨rfl, hb⟩; have hb' := (Below.refl _ W5).drew.trans hb; have k6 := K5.out.grew hb'; have c0 : w6.cell? ⟨q, 0, none⟩ = some (.int .u64 (ff : Int)) := (by rw [← FF.out]; exact k6.cell 0); have c1 : w6.cell? ⟨q, 1, none⟩ = some (.int .u64 (ss : Int)) := (by rw [← SS.out]; exact k6.cell 1); have c2 : w6.cell? ⟨q, 2, none⟩ = some (.int .i64 (nn : Int)) := (by rw [← NN.out]; exact k6.cell 2); have c3 : w6.cell? ⟨q, 3, none⟩ = some (.int .i64 (mk : Int)) := (by rw [← HMM.out]; exact k6.cell 3); have K6 := Lib.hid k6; have B6 := Lib.hid hb'; clear hb hb' k6))
            clear c0 c1 c2
            obtain ⟨b6, hb6⟩ : ∃ b, w6.heap.size = b := ⟨_, rfl⟩
            have hqb6 : q < b6 := by rw [← hb6]; exact K6.out.lt
            have b26 : Below wr.heap.size wr w6 := B5.out.trans (B6.out.mono B5.out.size)
            obtain ⟨FL, hFL⟩ : ∃ l, (moreP S k).F = l := ⟨_, rfl⟩
            have hfl : FL.length = k := by rw [← hFL]; exact HLN.out
            have c5a : (w6.alloc (.cells #[] 28)).cell? ⟨q, 5, none⟩ = some (.slice aF2 k cF2) := by rw [← HLN.out]; exact (K6.out.alloc _).cell 5
            have VN := Lib.hid (vec_newAt9 w6 28 b6 hb6.symm)
            have SL : Seq Elem.u64s (w6.alloc (.cells #[] 28)) (.slice aF2 k cF2) FL := by
              have h1 := (RF2.out.upd (updFalse_of b26) (fun _ h => h.elim)).1
              rw [HLN.out, hFL] at h1
              exact h1.alloc _
            have SL := Lib.hid SL; have HFL := Lib.hid hFL; have LFL := Lib.hid hfl; have HB6 := Lib.hid hb6; have B26 := Lib.hid b26
            obtain ⟨mk1, hmk1⟩ : ∃ n, mk + 1 = n := ⟨_, rfl⟩
            have e3 : (mk : Int) + 1 = (mk1 : Int) := by omega
            have hmk1b : mk1 ≤ 1025 := by omega
            have MK1 := Lib.hid hmk1
            have hk4 : k ≤ 4 := by omega
            clear hFL hfl b26 hmk1
            go_wp2_with (at_builtin; first
              | (refine wpList_append_vec (E := Elem.u64s) rfl (.tmp 59) (.tmp 63) 82 rfl 28 i0 (.int .u64 0) 8 Tryd.underlying82 hi hz0 hz1 hz2 rfl (.slice (some ⟨b6, 0, none⟩) 0 0) (.slice aF2 k cF2) [] FL rfl rfl VN.out SL.out ?_ ?_ ?_
                 · rw [LFL.out]; simp only [maxLen, List.length_nil]; omega
                 · rw [LFL.out]; simp only [List.length_nil]; omega
                 intro v1 w7 hv1 hu1 hin1
                 have B7 : Hid (Below w6.heap.size w6 w7) := Lib.hid (((Below.refl _ w6).alloc (Nat.le_refl _) _).trans (hu1.below (fun j hj => by rw [← in_at9 hj, HB6.out]; exact Nat.le_refl _) (by simp)))
                 have N7 : Hid (∀ j, In v1 j → w6.heap.size ≤ j) := Lib.hid (fun j hj => by rcases hin1 j hj with x | x; (rw [← in_at9 x, HB6.out]; exact Nat.le_refl _); (simp at x; omega))
                 have V7 := Lib.hid hv1
                 clear hv1 hu1 hin1)
              | (refine wpList_append_vec (E := Elem.u64s) rfl (.tmp 64) (.tmp 66) 82 rfl 28 i0 (.int .u64 0) 8 Tryd.underlying82 hi hz0 hz1 hz2 rfl v1 (.slice (some ⟨w7.heap.size, 0, none⟩) 1 1) ([] ++ FL) [X] rfl rfl (V7.out.alloc _) (u64_oneAt _ _ X _ rfl) ?_ ?_ ?_
                 · rw [List.nil_append, LFL.out]; simp only [maxLen, List.length_cons, List.length_nil]; omega
                 · rw [List.nil_append, LFL.out]; simp only [List.length_cons, List.length_nil]; omega
                 intro v2 w8 hv2 hu2 hin2
                 rw [List.nil_append] at hv2
                 have B8 : Hid (Below w6.heap.size w6 w8) := Lib.hid (((B7.out.alloc B7.out.size _)).trans (hu2.below (fun j hj => N7.out j hj) (Nat.le_trans B7.out.size (by simp))))
                 have N8 : Hid (∀ j, In v2 j → w6.heap.size ≤ j) := Lib.hid (fun j hj => by rcases hin2 j hj with x | x; exact N7.out j x; (have := B7.out.size; simp at x; omega))
                 obtain ⟨a8, cap8, rfl, hc1, hc2⟩ := hv2.slice'
                 have V8 := Lib.hid hv2
                 have K8 := Lib.hid (K6.out.grew B8.out)
                 have d5 : w8.cell? ⟨q, 5, none⟩ = some (.slice aF2 k cF2) := by rw [← HLN.out]; exact K8.out.cell 5
                 have g5 : w8.frozen? ⟨q, 5, none⟩ = false := K8.out.frozen 5
                 have d3 : w8.cell? ⟨q, 3, none⟩ = some (.int .i64 (mk : Int)) := by rw [← HMM.out]; exact K8.out.cell 3
                 have g3 : w8.frozen? ⟨q, 3, none⟩ = false := K8.out.frozen 3
                 clear hv2 hu2 hin2 c5a c3))
            have W8 : Upd (fun b => b = q) wr w8 := (updFalse_of (B26.out.trans (B8.out.mono B26.out.size))).mono fun _ h => h.elim
            have u9 : Upd (fun b => b = q) w8 ((w8.setCell ⟨q, 5, none⟩ (.slice a8 (FL.length + 1) cap8)).setCell ⟨q, 3, none⟩ (.int .i64 (mk1 : Int))) := ((Upd.refl (fun b => b = q) w8).setCell (p := ⟨q, 5, none⟩) (.inl rfl) _).setCell (p := ⟨q, 3, none⟩) (.inl rfl) _
            have k9 := (K8.out.put 5 (.slice a8 (FL.length + 1) cap8)).put 3 (.int .i64 (mk1 : Int))
            have hAb : ∀ b, A b → b < w6.heap.size := fun b hb => by have h1 := HA.out b hb; have h2 := UU.out.size; have h3 := B26.out.size; omega
            have hv8 := V8.out
            have rF' : Rw (fun b => A b ∨ b = q) w8 a8 cap8 (FL ++ [X]) := rw_fresh hv8 hc1 hc2 N8.out hAb (by rw [HB6.out]; exact hqb6)
            have hRP : RP A ((w8.setCell ⟨q, 5, none⟩ (.slice a8 (FL.length + 1) cap8)).setCell ⟨q, 3, none⟩ (.int .i64 (mk1 : Int))) q (moreP S (k + 1)) P := by
              rw [more_next S k X (by rw [FF.out, SS.out, MD.out, HMK.out]; exact HX2.out), HFL.out, HMM.out, MK1.out]
              refine ⟨⟨a8, cap8, aG2, cG2, aP2, cP2, ?_, rF'.upd u9 (fun _ h => Or.inr h), RG2.out.upd (W8.trans u9) (fun _ h => Or.inr h), RP2.out.upd (W8.trans u9) (fun _ h => Or.inr h)⟩, HQ.out⟩
              show Blk _ q _ (pgC { moreP S k with F := FL ++ [X], made := mk1 } (.slice a8 (FL ++ [X]).length cap8) _ _)
              rw [show (FL ++ [X]).length = FL.length + 1 by simp]
              exact k9
            go_roundw
            case rel => exact ⟨k + 1, HKM.out, by go_num, hRP, UU.out.trans (W8.trans u9)⟩
            case measure => simp [intOf]; omega
          · have hkm' : k = m := by omega
            have hfin : RP A wr q (refill S) P := by rw [HRF.out, ← hkm']; exact RR.out
            have FIN := Lib.hid hfin
            by_cases h4 : k < 4
            · have t1 : decide ((k : Int) < 4) = true := decide_eq_true (by omega)
              have t2 : decide ((mk : Int) < (nn : Int)) = false := decide_eq_false (by omega)
              have t2' : decide (mk < nn) = false := decide_eq_false (by omega)
              clear hkm hkm' h4 hfin hr hu hlen hmm hmk k2 rF2 rG2 rP2
              go_wp2_with fail
              go_quiet (fail)
              go_wp2_with fail
              go_meet
              exact ⟨rfl, FIN.out.grew (below_drewN (Below.refl _ wr) _), ⟨UU.out.os, UU.out.tape, UU.out.output, UU.out.size, UU.out.block⟩⟩
            · have t1 : decide ((k : Int) < 4) = false := decide_eq_false (by omega)
              clear hkm hkm' h4 hfin hr hu hlen hmm hmk k2 rF2 rG2 rP2 c2 c3
              go_wp2_with fail
              go_quiet (fail)
              go_wp2_with fail
              go_meet
              exact ⟨rfl, FIN.out.grew (below_drewN (Below.refl _ wr) _), ⟨UU.out.os, UU.out.tape, UU.out.output, UU.out.size, UU.out.block⟩⟩
      · have t1 : ((n1 : Int) == 0) = false := by rw [beq_eq_false_iff_ne]; omega
        have hrf : refill S = swapP S := swap_some (fun e => h0 (by rw [← N1.out, e]; rfl))
        have HRF := Lib.hid hrf
        clear h0 hrf
        go_wp2_with fail
        go_meet
        rw [HRF.out]
        exact ⟨rfl, R1.out, U1.out⟩
    case rest =>
      obtain ⟨rfl, hr2, hu2⟩ := hcut
      obtain ⟨aF2, cF2, aG2, cG2, aP2, cP2, k2, rF2, rG2, rP2⟩ := hr2.out
      have R2 := Lib.hid hr2; have U2 := Lib.hid hu2; have K2 := Lib.hid k2; have RF2 := Lib.hid rF2; have RG2 := Lib.hid rG2; have RP2 := Lib.hid rP2
      cases hF : (refill S).F with
      | nil =>
        have hal : allocP S = (S, 0, 4) := by unfold allocP; rw [hF]
        have hrf := refill_none hF
        have hal := HE.out.symm.trans hal
        simp only [Prod.mk.injEq] at hal
        obtain ⟨rfl, rfl, rfl⟩ := hal
        have c5 : wc.cell? ⟨q, 5, none⟩ = some (.slice aF2 0 cF2) := by have := k2.cell 5; rw [hF] at this; exact this
        rw [hrf] at R2
        clear hr2 hu2 k2 rF2 rG2 rP2 K2 RF2 RG2 RP2 hF hrf d5 R1 HE
        go_wp2
        go_ret2
        exact ⟨rfl, R2.out, U2.out⟩
      | cons x tl =>
        have hal : allocP S = ({ refill S with F := tl, used := S.used + 1 }, x, 0) := by unfold allocP; rw [hF]
        have hal := HE.out.symm.trans hal
        simp only [Prod.mk.injEq] at hal
        obtain ⟨rfl, hXA, rfl⟩ := hal
        obtain rfl : x = XA := hXA.symm
        have hxb : U64B x := HX.out x (by rw [hF]; exact List.mem_cons_self ..)
        obtain ⟨n2, hn2⟩ : ∃ n, tl.length = n := ⟨_, rfl⟩
        obtain ⟨n3, hn3⟩ : ∃ n, n2 + 1 = n := ⟨_, rfl⟩
        obtain ⟨us, hus⟩ : ∃ n, S.used = n := ⟨_, rfl⟩
        obtain ⟨us1, hus1⟩ : ∃ n, us + 1 = n := ⟨_, rfl⟩
        have e4 : (us : Int) + 1 = (us1 : Int) := by omega
        have hus1b : us1 ≤ 1000001 := by omega
        have hup := (refill_parts S).2.2.2.1
        rw [hF] at rF2 k2
        obtain ⟨h1, h2, h3, h4⟩ := rF2
        rw [List.length_cons, hn2, hn3] at h1 h2 h4 k2
        have c5 : wc.cell? ⟨q, 5, none⟩ = some (.slice aF2 n3 cF2) := k2.cell 5
        have f5 : wc.frozen? ⟨q, 5, none⟩ = false := k2.frozen 5
        have c4 : wc.cell? ⟨q, 4, none⟩ = some (.int .i64 (us : Int)) := by have := k2.cell 4; rw [← hus, ← hup]; exact this
        have f4 : wc.frozen? ⟨q, 4, none⟩ = false := k2.frozen 4
        obtain ⟨bv, ov, rfl, hcl⟩ := h1.elem (i := 0) (x := x) rfl
        have y0 := hcl 0 (.int .u64 (x : Int)) rfl
        simp only [Elem.u64s, Nat.add_zero, Nat.zero_mul] at y0
        obtain ⟨a3, hsl, hin3, hsq3⟩ := cut_tail (E := Elem.u64s) (P := Tryd.prog) wc 82 Tryd.underlying82 sizeU9 (some ⟨bv, ov, none⟩) n3 cF2 1 (by omega) h2
        have hsl1 : ∀ w, (Instr.slice 82 (.slice (some ⟨bv, ov, none⟩) n3 cF2) (some (.int .i64 1)) none none).run Tryd.prog w = .ok (.slice a3 n2 (cF2 - 1)) w := by have := hsl; rw [show n3 - 1 = n2 by omega] at this; exact this
        rw [show n3 - 1 = n2 by omega] at hin3 hsq3
        have z1 : ((n3 : Int) == 0) = false := by rw [beq_eq_false_iff_ne]; omega
        have zp : (0 : Int) < (n3 : Int) := by omega
        have zp' : 0 < n3 := by omega
        have rF3 : Rw (fun b => A b ∨ b = q) wc a3 (cF2 - 1) tl := by
          refine ⟨by rw [hn2]; exact hsq3 wc _ h1, by omega, by omega, fun b hb => ?_⟩
          rw [hn2] at hb
          exact h4 b (hin3 b hb)
        have RF3 := Lib.hid rF3; have N2 := Lib.hid hn2; have KK2 := Lib.hid k2; have US := Lib.hid hus; have US1 := Lib.hid hus1
        clear hr2 hu2 k2 rG2 rP2 K2 RF2 hF d5 R1 R2 HE h1 h2 h3 h4 hcl hsl hin3 hsq3 rF3 hn2 hn3 hus hus1 hup
        go_wp2
        go_ret2
        have u5 : Upd (fun b => b = q) wc ((wc.setCell ⟨q, 5, none⟩ (.slice a3 n2 (cF2 - 1))).setCell ⟨q, 4, none⟩ (.int .i64 (us1 : Int))) := ((Upd.refl (fun b => b = q) wc).setCell (p := ⟨q, 5, none⟩) (.inl rfl) _).setCell (p := ⟨q, 4, none⟩) (.inl rfl) _
        have k5 := (KK2.out.put 5 (.slice a3 n2 (cF2 - 1))).put 4 (.int .i64 (us1 : Int))
        refine ⟨rfl, ⟨⟨a3, cF2 - 1, aG2, cG2, aP2, cP2, ?_, RF3.out.upd u5 (fun _ h => Or.inr h), RG2.out.upd u5 (fun _ h => Or.inr h), RP2.out.upd u5 (fun _ h => Or.inr h)⟩, HQ.out⟩, U2.out.trans u5⟩
        show Blk _ q _ (pgC { refill S with F := tl, used := S.used + 1 } (.slice a3 tl.length (cF2 - 1)) _ _)
        rw [N2.out, US.out, US1.out]
        exact k5
end Go.Proofs.YtomepdgddpajoaaDoor
/- The document's own answer for layer 3 (places, one by one): contracts. -/
namespace Go.Proofs.YtomepdgddpajoaaDoor.Mk
open Go.RowKit
set_option linter.unusedVariables false
set_option maxRecDepth 100000

/-- The document's marks at block p: their row lies in block g. -/
structure IsRef (w : World) (p g : Nat) (L : List Bool) : Prop where
  head : Blk w p 131 #[.slice (some ⟨g, 0, none⟩) L.length L.length]
  row : BRow w 4 g L
  ne : p ≠ g
  pos : 1 ≤ L.length
  big : L.length ≤ 256
theorem IsRef.upd {S : Nat → Prop} {w w' : World} {p g : Nat} {L : List Bool} (h : IsRef w p g L) (u : Upd S w w') (hp : ¬ S p) (hg : ¬ S g) : IsRef w' p g L := ⟨h.head.upd u hp, h.row.upd u hg, h.ne, h.pos, h.big⟩
theorem IsRef.alloc {w : World} {p g : Nat} {L : List Bool} (h : IsRef w p g L) (o : Obj) : IsRef (w.alloc o) p g L := ⟨h.head.alloc o, h.row.alloc o, h.ne, h.pos, h.big⟩
theorem IsRef.drew {w : World} {p g : Nat} {L : List Bool} (h : IsRef w p g L) : IsRef w.drew p g L := ⟨h.head, h.row, h.ne, h.pos, h.big⟩
theorem IsRef.below {w w' : World} {p g : Nat} {L : List Bool} (h : IsRef w p g L) {B : Nat} (hp : p < B) (hg : g < B) (hb : Below B w w') : IsRef w' p g L := h.upd (Upd.ofBelow hb) (by omega) (by omega)
theorem IsRef.grew {w w' : World} {p g : Nat} {L : List Bool} (h : IsRef w p g L) (hb : Below w.heap.size w w') : IsRef w' p g L := h.below h.head.lt h.row.lt hb
theorem IsRef.written {w w' : World} {p g : Nat} {L M : List Bool} (h : IsRef w p g L) (u : Upd (fun k => k = g) w w') (hr : BRow w' 4 g M) (hl : M.length = L.length) : IsRef w' p g M :=
  ⟨by rw [hl]; exact h.head.upd u h.ne, hr, h.ne, by rw [hl]; exact h.pos, by rw [hl]; exact h.big⟩

def RefMade (w : World) (n : Nat) (e : Ending) (w' : World) : Prop :=
  ∃ p g, e = .returned (.tuple #[.pointer (some ⟨p, 0, none⟩), .bool true]) ∧ IsRef w' p g (MarkMath.rep n false) ∧ w.heap.size ≤ p ∧ w.heap.size ≤ g ∧ Upd (fun _ => False) w w'
theorem ref_new_ok (n : Nat) (h0 : 1 ≤ n) (h1 : n ≤ 256) (w : World) : Calls Tryd.prog 48 #[.int .i64 (n : Int)] w (RefMade w n) := by
  obtain ⟨i0, hi, hz0, hz1, hz2⟩ := info_parts infoB
  go_enter Tryd.func48, Tryd.ntmps48
  go_wp2_with (at_make; refine wpList_make_bools rfl _ _ 129 rfl 4 i0 Tryd.underlying129 hi hz0 hz1 hz2 _ _ _ n rfl rfl rfl ?_ ?_; omega; intro w1 hr hu hs)
  have S1 := Lib.hid hs; have R1 := Lib.hid hr; have U1 := Lib.hid hu
  clear hs hr hu
  go_wp2
  go_ret2
  have hlt := R1.out.lt
  refine ⟨w.heap.size + 1, w.heap.size, rfl, ⟨?_, R1.out.alloc _, by omega, by rw [MarkMath.length_rep]; exact h0, by rw [MarkMath.length_rep]; exact h1⟩, by omega, Nat.le_refl _, U1.out.alloc _⟩
  rw [MarkMath.length_rep, ← S1.out]
  exact Blk.new w1 _ _
theorem ref_new_bad (n : Int) (h : n < 1 ∨ 256 < n) (w : World) : Calls Tryd.prog 48 #[.int .i64 n] w fun e w' => e = .returned (.tuple #[.pointer none, .bool false]) ∧ w = w' := by
  by_cases h0 : n < 1
  · clear h
    go_enter Tryd.func48, Tryd.ntmps48
    go_wp2
    go_ret2
    exact ⟨rfl, rfl⟩
  · have h1 : 256 < n := by omega
    have h2 : 1 ≤ n := by omega
    clear h h0
    go_enter Tryd.func48, Tryd.ntmps48
    go_wp2
    go_ret2
    exact ⟨rfl, rfl⟩

/-! ### is, all, set -/
theorem ref_is {w : World} {p g : Nat} {L : List Bool} (h : IsRef w p g L) (a k : Int) (ha : I64 a) (hk : I64 k) :
    Calls Tryd.prog 75 #[.pointer (some ⟨p, 0, none⟩), .int .i64 a, .int .i64 k] w fun e w' => e = .returned (.bool (decide (InAt L a k))) ∧ w = w' := by
  have hb := h.big
  have hc : w.cell? ⟨p, 0, none⟩ = some (.slice (some ⟨g, 0, none⟩) L.length L.length) := h.head.cell 0
  obtain ⟨a1, a2⟩ := ha
  obtain ⟨k1, k2⟩ := hk
  clear h
  by_cases h1 : k < 1
  · have hd : decide (InAt L a k) = false := decide_eq_false (fun x => by have := x.2.1; omega)
    rw [hd]; clear hd
    go_enter Tryd.func75, Tryd.ntmps75
    go_wp2
    go_ret
    exact ⟨rfl, rfl⟩
  · have h1' : 1 ≤ k := by omega
    clear h1
    by_cases h0 : a < 0
    · have hd : decide (InAt L a k) = false := decide_eq_false (fun x => by have := x.1; omega)
      rw [hd]; clear hd
      go_enter Tryd.func75, Tryd.ntmps75
      go_wp2
      go_ret
      exact ⟨rfl, rfl⟩
    · have h0' : 0 ≤ a := by omega
      clear h0
      by_cases h2 : (L.length : Int) ≤ a
      · have hd : decide (InAt L a k) = false := decide_eq_false (fun x => by have := x.2.2; omega)
        rw [hd]; clear hd
        go_enter Tryd.func75, Tryd.ntmps75
        go_wp2
        go_ret
        exact ⟨rfl, rfl⟩
      · have h2' : a < (L.length : Int) := by omega
        clear h2
        by_cases h3 : k ≤ (L.length : Int) - a
        · have hd : decide (InAt L a k) = true := decide_eq_true ⟨by omega, by omega, by omega⟩
          rw [hd]; clear hd
          go_enter Tryd.func75, Tryd.ntmps75
          go_wp2
          go_ret
          exact ⟨rfl, rfl⟩
        · have hd : decide (InAt L a k) = false := decide_eq_false (fun x => by have := x.2.2; omega)
          have h3' : decide (k ≤ (L.length : Int) - a) = false := decide_eq_false h3
          rw [hd]; clear hd h3
          go_enter Tryd.func75, Tryd.ntmps75
          go_wp2
          go_ret
          exact ⟨rfl, rfl⟩
theorem ref_all {w : World} {p g : Nat} {L : List Bool} (h : IsRef w p g L) (a k : Nat) (hl : a + k ≤ L.length) (x r : Bool) (hr : decide (MarkMath.allAt L a k x) = r) :
    Calls Tryd.prog 76 #[.pointer (some ⟨p, 0, none⟩), .int .i64 (a : Int), .int .i64 (k : Int), .bool x] w fun e w' => e = .returned (.bool r) ∧ w = w' := by
  have hb := h.big
  have hc : w.cell? ⟨p, 0, none⟩ = some (.slice (some ⟨g, 0, none⟩) L.length L.length) := h.head.cell 0
  have H := Lib.hid h; have HR := Lib.hid hr
  clear h hr
  go_enter Tryd.func76, Tryd.ntmps76
  go_wp2
  go_loop [9] (fun i => ∃ j : Nat, j ≤ k ∧ i = .int .i64 ((a + j : Nat) : Int) ∧ MarkMath.allAt L a j x) (fun i => a + k - (intOf i).toNat)
  case atStart => exact ⟨0, Nat.zero_le _, rfl, MarkMath.allAt.none _ _ _⟩
  case round =>
    obtain ⟨j, hj, rfl, hf⟩ := hrel
    have HF := Lib.hid hf; clear hf
    obtain ⟨q, hq⟩ : ∃ q, a + j = q := ⟨_, rfl⟩
    have hq' : j = q - a := by omega
    have hqa : a ≤ q := by omega
    rw [hq]
    have HQ := Lib.hid hq; clear hq hq'
    by_cases hlt : q < a + k
    · have hcell := H.out.row.cell q (by omega)
      obtain ⟨c, hcd⟩ : ∃ c, L.getD q false = c := ⟨_, rfl⟩
      rw [hcd] at hcell
      have HC := Lib.hid hcd; clear hcd
      by_cases hx : c = x
      · subst hx
        have hcc : (c == c) = true := by simp
        have hcc' : (c != c) = false := by simp
        go_wp2
        go_round
        case rel =>
          have := HQ.out
          refine ⟨j + 1, by omega, by rw [show a + (j + 1) = q + 1 by omega]; go_num, HF.out.snoc (by omega) ?_⟩
          rw [HQ.out]; exact HC.out
        case measure => simp [intOf]; omega
      · have hx1 : (c == x) = false := by cases x <;> cases c <;> simp_all
        have HX := Lib.hid hx; clear hx
        go_wp2
        go_ret
        refine ⟨?_, rfl⟩
        rw [← HR.out, decide_eq_false (fun h => HX.out (by have := h.at (i := q) (by omega) (by omega) false; rw [← HC.out]; exact this))]; rfl
    · have := HQ.out
      obtain rfl : j = k := by omega
      clear this
      go_wp2
      go_ret
      refine ⟨?_, rfl⟩
      rw [← HR.out, decide_eq_true HF.out]; rfl
def SetRel (w : World) (g a k : Nat) (L : List Bool) (b : Bool) (i : Value) (wr : World) : Prop :=
  ∃ j : Nat, j ≤ k ∧ i = .int .i64 ((a + j : Nat) : Int) ∧ BRow wr 4 g (MarkMath.setAt L a j b) ∧ Upd (fun k => k = g) w wr
def RefWrote (w : World) (p g : Nat) (M : List Bool) (v : Value) (e : Ending) (w' : World) : Prop := e = .returned v ∧ IsRef w' p g M ∧ Upd (fun k => k = g) w w'
theorem ref_set {w : World} {p g : Nat} {L : List Bool} (h : IsRef w p g L) (a k : Nat) (hl : a + k ≤ L.length) (b : Bool) :
    Calls Tryd.prog 77 #[.pointer (some ⟨p, 0, none⟩), .int .i64 (a : Int), .int .i64 (k : Int), .bool b] w (RefWrote w p g (MarkMath.setAt L a k b) (.tuple #[])) := by
  have hb := h.big
  have H := Lib.hid h
  clear h
  go_enter Tryd.func77, Tryd.ntmps77
  go_wp2
  go_loopw [8] (fun i wr => SetRel w g a k L b i wr) (fun i _ => a + k - (intOf i).toNat)
  case atStart => exact ⟨0, Nat.zero_le _, rfl, by rw [MarkMath.setAt_none]; exact H.out.row, Upd.refl _ _⟩
  case round =>
    obtain ⟨j, hj, rfl, hr, hu⟩ := hrel
    have hc : wr.cell? ⟨p, 0, none⟩ = some (.slice (some ⟨g, 0, none⟩) L.length L.length) := (H.out.head.upd hu H.out.ne).cell 0
    have HR := Lib.hid hr; have HU := Lib.hid hu
    clear hr hu
    obtain ⟨q, hq⟩ : ∃ q, a + j = q := ⟨_, rfl⟩
    have hqa : a ≤ q := by omega
    rw [hq]
    have HQ := Lib.hid hq; clear hq
    by_cases hlt : q < a + k
    · have hjk : j < k := by have := HQ.out; omega
      have hcell := HR.out.cell q (by rw [MarkMath.length_setAt _ (by omega)]; omega)
      obtain ⟨c, hcd⟩ : ∃ c, (MarkMath.setAt L a j b).getD q false = c := ⟨_, rfl⟩
      rw [hcd] at hcell; clear hcd
      have hfr : wr.frozen? ⟨g, q, none⟩ = false := HR.out.frozen _
      go_wp2
      refine ⟨⟨j + 1, by omega, by rw [show a + (j + 1) = q + 1 by have := HQ.out; omega]; go_num, ?_, HU.out.setCell (.inl rfl) _⟩, by simp [intOf]; omega⟩
      rw [← MarkMath.setAt_snoc _ (by omega), HQ.out]
      exact HR.out.put q b
    · have := HQ.out
      obtain rfl : j = k := by omega
      clear this
      go_wp2
      go_end0
      exact ⟨rfl, H.out.written HU.out HR.out (MarkMath.length_setAt _ hl), HU.out⟩

/-! ### Mark, Free -/
theorem ref_mark {w : World} {p g : Nat} {L : List Bool} (h : IsRef w p g L) (a k : Int) (ha : I64 a) (hk : I64 k) :
    Calls Tryd.prog 49 #[.pointer (some ⟨p, 0, none⟩), .int .i64 a, .int .i64 k] w (RefWrote w p g (turnL true L a k) (.int .i64 (turnE true 6 L a k))) := by
  have HI := Lib.hid (ref_is h a k ha hk)
  by_cases hn : InAt L a k
  · have hd : decide (InAt L a k) = true := decide_eq_true hn
    rw [hd] at HI
    clear hd
    obtain ⟨h0, h1, h2⟩ := hn
    obtain ⟨a, rfl⟩ := Int.eq_ofNat_of_zero_le h0
    obtain ⟨k, rfl⟩ := Int.eq_ofNat_of_zero_le (show 0 ≤ k by omega)
    by_cases hf : MarkMath.allAt L a k (!true)
    · have HA := Lib.hid (ref_all h a k (by omega) (!true) true (decide_eq_true hf))
      have HS := Lib.hid (ref_set h a k (by omega) true)
      rw [turnE_yes (by omega) hf, turnL_yes (by omega) hf]
      clear h hf h0 h1 h2 ha hk
      go_enter Tryd.func49, Tryd.ntmps49
      go_wp2_with (first | (go_at_call 75; refine HI.out.mono ?_; rintro e w' ⟨rfl, rfl⟩) | (go_at_call 76; refine HA.out.mono ?_; rintro e w' ⟨rfl, rfl⟩) | (go_at_call 77; refine HS.out.mono ?_; rintro e w' ⟨rfl, hm⟩; have HM := Lib.hid hm; clear hm))
      go_ret
      exact ⟨rfl, HM.out⟩
    · have HA := Lib.hid (ref_all h a k (by omega) (!true) false (decide_eq_false hf))
      have HH := Lib.hid h
      rw [turnE_no (by omega) (by omega) hf, turnL_no hf]
      clear h hf h0 h1 h2 ha hk
      go_enter Tryd.func49, Tryd.ntmps49
      go_wp2_with (first | (go_at_call 75; refine HI.out.mono ?_; rintro e w' ⟨rfl, rfl⟩) | (go_at_call 76; refine HA.out.mono ?_; rintro e w' ⟨rfl, rfl⟩))
      go_ret
      exact ⟨rfl, HH.out, Upd.refl _ _⟩
  · have hd : decide (InAt L a k) = false := decide_eq_false hn
    rw [hd] at HI
    rw [turnE_out hn, turnL_out hn]
    have HH := Lib.hid h
    clear h hd hn ha hk
    go_enter Tryd.func49, Tryd.ntmps49
    go_wp2_with (go_at_call 75; refine HI.out.mono ?_; rintro e w' ⟨rfl, rfl⟩)
    go_ret
    exact ⟨rfl, HH.out, Upd.refl _ _⟩
theorem ref_free {w : World} {p g : Nat} {L : List Bool} (h : IsRef w p g L) (a k : Int) (ha : I64 a) (hk : I64 k) :
    Calls Tryd.prog 53 #[.pointer (some ⟨p, 0, none⟩), .int .i64 a, .int .i64 k] w (RefWrote w p g (turnL false L a k) (.int .i64 (turnE false 5 L a k))) := by
  have HI := Lib.hid (ref_is h a k ha hk)
  by_cases hn : InAt L a k
  · have hd : decide (InAt L a k) = true := decide_eq_true hn
    rw [hd] at HI
    clear hd
    obtain ⟨h0, h1, h2⟩ := hn
    obtain ⟨a, rfl⟩ := Int.eq_ofNat_of_zero_le h0
    obtain ⟨k, rfl⟩ := Int.eq_ofNat_of_zero_le (show 0 ≤ k by omega)
    by_cases hf : MarkMath.allAt L a k (!false)
    · have HA := Lib.hid (ref_all h a k (by omega) (!false) true (decide_eq_true hf))
      have HS := Lib.hid (ref_set h a k (by omega) false)
      rw [turnE_yes (by omega) hf, turnL_yes (by omega) hf]
      clear h hf h0 h1 h2 ha hk
      go_enter Tryd.func53, Tryd.ntmps53
      go_wp2_with (first | (go_at_call 75; refine HI.out.mono ?_; rintro e w' ⟨rfl, rfl⟩) | (go_at_call 76; refine HA.out.mono ?_; rintro e w' ⟨rfl, rfl⟩) | (go_at_call 77; refine HS.out.mono ?_; rintro e w' ⟨rfl, hm⟩; have HM := Lib.hid hm; clear hm))
      go_ret
      exact ⟨rfl, HM.out⟩
    · have HA := Lib.hid (ref_all h a k (by omega) (!false) false (decide_eq_false hf))
      have HH := Lib.hid h
      rw [turnE_no (by omega) (by omega) hf, turnL_no hf]
      clear h hf h0 h1 h2 ha hk
      go_enter Tryd.func53, Tryd.ntmps53
      go_wp2_with (first | (go_at_call 75; refine HI.out.mono ?_; rintro e w' ⟨rfl, rfl⟩) | (go_at_call 76; refine HA.out.mono ?_; rintro e w' ⟨rfl, rfl⟩))
      go_ret
      exact ⟨rfl, HH.out, Upd.refl _ _⟩
  · have hd : decide (InAt L a k) = false := decide_eq_false hn
    rw [hd] at HI
    rw [turnE_out hn, turnL_out hn]
    have HH := Lib.hid h
    clear h hd hn ha hk
    go_enter Tryd.func53, Tryd.ntmps53
    go_wp2_with (go_at_call 75; refine HI.out.mono ?_; rintro e w' ⟨rfl, rfl⟩)
    go_ret
    exact ⟨rfl, HH.out, Upd.refl _ _⟩
end Go.Proofs.YtomepdgddpajoaaDoor.Mk
/- The document's own answer for layer 3: Take, Left, Longest: contracts. -/
namespace Go.Proofs.YtomepdgddpajoaaDoor.Mk
open Go.RowKit
set_option linter.unusedVariables false
set_option maxRecDepth 100000

def TakeRel (L : List Bool) (k : Nat) (i : Value) : Prop := ∃ j : Nat, j + k ≤ L.length + 1 ∧ i = .int .i64 (j : Int) ∧ ∀ b, b < j → ¬ MarkMath.allAt L b k false
theorem ref_take_in {w : World} {p g : Nat} {L : List Bool} (h : IsRef w p g L) (k : Nat) (hk1 : 1 ≤ k) (hk2 : k ≤ L.length) :
    Calls Tryd.prog 81 #[.pointer (some ⟨p, 0, none⟩), .int .i64 (k : Int)] w (RefWrote w p g (takeL L k) (.tuple #[.int .i64 (takeA L k), .int .i64 (takeE L k)])) := by
  have hb := h.big
  have hc : w.cell? ⟨p, 0, none⟩ = some (.slice (some ⟨g, 0, none⟩) L.length L.length) := h.head.cell 0
  have H := Lib.hid h
  clear h
  have g0 : decide ((k : Int) < 1) = false := decide_eq_false (by omega)
  have g1 : decide (L.length < k) = false := decide_eq_false (by omega)
  go_enter Tryd.func81, Tryd.ntmps81
  go_wp2
  go_loop [6] (fun i => TakeRel L k i) (fun i => L.length + 1 - (intOf i).toNat)
  case atStart => exact ⟨0, by omega, rfl, fun b hb => by omega⟩
  case round =>
    obtain ⟨j, hj, rfl, hn⟩ := hrel
    by_cases hlt : j + k ≤ L.length
    · by_cases hf : MarkMath.allAt L j k false
      · have HA := Lib.hid (ref_all H.out j k hlt false true (decide_eq_true hf))
        have HS := Lib.hid (ref_set H.out j k hlt true)
        have E := Lib.hid (take_yes hk1 hk2 (MarkMath.low_of hk1 ⟨hf, hn⟩))
        clear hf hn
        go_wp2_with (first | (go_at_call 76; refine HA.out.mono ?_; rintro e w' ⟨rfl, rfl⟩) | (go_at_call 77; refine HS.out.mono ?_; rintro e w' ⟨rfl, hm⟩; have HM := Lib.hid hm; clear hm))
        go_ret2
        exact ⟨by rw [E.out.1, E.out.2.1]; rfl, by rw [E.out.2.2]; exact HM.out.1, HM.out.2⟩
      · have HA := Lib.hid (ref_all H.out j k hlt false false (decide_eq_false hf))
        have HN := Lib.hid hn; have HF := Lib.hid hf
        clear hn hf
        go_wp2_with (go_at_call 76; refine HA.out.mono ?_; rintro e w' ⟨rfl, rfl⟩)
        go_round
        case rel =>
          refine ⟨j + 1, by omega, by go_num, fun b hb => ?_⟩
          rcases Nat.lt_or_ge b j with h1 | h1
          · exact HN.out b h1
          · obtain rfl : b = j := by omega
            exact HF.out
        case measure => simp [intOf]; omega
    · have E := Lib.hid (take_full hk1 hk2 (MarkMath.low_no hk1 (fun b hb' => by
        rcases Nat.lt_or_ge b j with h1 | h1
        · exact hn b h1 hb'
        · have := hb'.le hk1; omega)))
      have hlt' : L.length < j + k := by omega
      clear hn hlt
      go_wp2
      go_ret2
      exact ⟨by rw [E.out.1, E.out.2.1]; rfl, by rw [E.out.2.2]; exact H.out, Upd.refl _ _⟩
theorem ref_take_far {w : World} {p g : Nat} {L : List Bool} (h : IsRef w p g L) (k : Int) (hw : I64 k) (hk : ¬ InRow L k) :
    Calls Tryd.prog 81 #[.pointer (some ⟨p, 0, none⟩), .int .i64 k] w fun e w' => e = .returned (.tuple #[.int .i64 0, .int .i64 2]) ∧ w = w' := by
  have hb := h.big
  have hc : w.cell? ⟨p, 0, none⟩ = some (.slice (some ⟨g, 0, none⟩) L.length L.length) := h.head.cell 0
  clear h
  unfold InRow at hk
  by_cases h1 : k < 1
  · clear hk hw
    go_enter Tryd.func81, Tryd.ntmps81
    go_wp2
    go_ret2
    exact ⟨rfl, rfl⟩
  · have h1' : 1 ≤ k := by omega
    have h2 : (L.length : Int) < k := by omega
    clear hk hw h1
    go_enter Tryd.func81, Tryd.ntmps81
    go_wp2
    go_ret2
    exact ⟨rfl, rfl⟩
theorem ref_take {w : World} {p g : Nat} {L : List Bool} (h : IsRef w p g L) (k : Int) (hw : I64 k) :
    Calls Tryd.prog 81 #[.pointer (some ⟨p, 0, none⟩), .int .i64 k] w (RefWrote w p g (takeL L k) (.tuple #[.int .i64 (takeA L k), .int .i64 (takeE L k)])) := by
  by_cases hk : InRow L k
  · obtain ⟨h1, h2⟩ := hk
    obtain ⟨k, rfl⟩ := Int.eq_ofNat_of_zero_le (show 0 ≤ k by omega)
    exact ref_take_in h k (by omega) (by omega)
  · refine (ref_take_far h k hw hk).mono ?_
    rintro e w' ⟨rfl, rfl⟩
    obtain ⟨e1, e2, e3⟩ := take_out hk
    exact ⟨by rw [e1, e2], by rw [e3]; exact h, Upd.refl _ _⟩

theorem drop_cons {L : List Bool} {k : Nat} (h : k < L.length) : L.drop k = L.getD k false :: L.drop (k + 1) := by
  rw [List.drop_eq_getElem_cons h, List.getD_eq_getElem?_getD, List.getElem?_eq_getElem h]; rfl
def LeftRel (L : List Bool) (n i : Value) : Prop := ∃ j c : Nat, j ≤ L.length ∧ c ≤ j ∧ i = .int .i64 (j : Int) ∧ n = .int .i64 (c : Int) ∧ c + MarkMath.left (L.drop j) = MarkMath.left L
theorem ref_left {w : World} {p g : Nat} {L : List Bool} (h : IsRef w p g L) :
    Calls Tryd.prog 29 #[.pointer (some ⟨p, 0, none⟩)] w fun e w' => e = .returned (.int .i64 (MarkMath.left L : Nat)) ∧ w = w' := by
  have hb := h.big
  have hc : w.cell? ⟨p, 0, none⟩ = some (.slice (some ⟨g, 0, none⟩) L.length L.length) := h.head.cell 0
  have H := Lib.hid h
  clear h
  go_enter Tryd.func29, Tryd.ntmps29
  go_wp2
  go_loop [3, 11] (fun n i => LeftRel L n i) (fun _ i => L.length - (intOf i).toNat)
  case atStart => exact ⟨0, 0, Nat.zero_le _, Nat.le_refl _, rfl, rfl, by simp⟩
  case round =>
    obtain ⟨j, c, hj, hcj, rfl, rfl, hs⟩ := hrel
    have HS := Lib.hid hs; clear hs
    by_cases hlt : j < L.length
    · have hcell := H.out.row.cell j hlt
      have HD := Lib.hid (drop_cons hlt)
      obtain ⟨x, hx⟩ : ∃ x, L.getD j false = x := ⟨_, rfl⟩
      rw [hx] at hcell HD
      clear hx
      cases x with
      | false =>
        go_wp2
        go_round
        case rel => exact ⟨j + 1, c + 1, by omega, by omega, by go_num, by go_num, by rw [← HS.out, HD.out]; simp [MarkMath.left]; omega⟩
        case measure => simp [intOf]; omega
      | true =>
        go_wp2
        go_round
        case rel => exact ⟨j + 1, c, by omega, by omega, by go_num, rfl, by rw [← HS.out, HD.out]; simp [MarkMath.left]⟩
        case measure => simp [intOf]; omega
    · obtain rfl : j = L.length := by omega
      go_wp2
      go_ret
      refine ⟨?_, rfl⟩
      rw [← HS.out, List.drop_length]
      rfl
def LongRel (L : List Bool) (n m i : Value) : Prop := ∃ j c d : Nat, j ≤ L.length ∧ c ≤ j ∧ d ≤ j ∧ i = .int .i64 (j : Int) ∧ n = .int .i64 (c : Int) ∧ m = .int .i64 (d : Int) ∧ MarkMath.lng c d (L.drop j) = MarkMath.longest L
end Go.Proofs.YtomepdgddpajoaaDoor.Mk
/- The document's own classes (allotmentref05): Blocks: contract. -/
namespace Go.Proofs.YtomepdgddpajoaaDoor
open Go.RowKit ClassMath
set_option linter.unusedVariables false
set_option maxRecDepth 100000

def Counting (w : World) (B : Nat) (i : Value) (wr : World) : Prop := ∃ j : Nat, j ≤ B ∧ i = .int .i64 (j : Int) ∧ Below w.heap.size w wr
set_option maxHeartbeats 1000000 in
theorem ref_blocks (w : World) (c : Nat) (hc : c < 12) : Calls Tryd.prog 60 #[.int .i64 (c : Int)] w fun e w' => e = .returned (.int .i64 ((blocksAt c : Nat) : Int)) ∧ Below w.heap.size w w' := by
  obtain ⟨b1, b2⟩ := size_bounds hc
  obtain ⟨m1, m2⟩ := slices_bounds hc
  obtain ⟨k1, k2, k3, k4⟩ := blocks_fit hc
  have HSL := Lib.hid (fun w => ref_slices w c hc)
  obtain ⟨s, hss⟩ : ∃ s, sizeAt c = s := ⟨_, rfl⟩
  obtain ⟨m, hm⟩ : ∃ m, slicesAt c = m := ⟨_, rfl⟩
  obtain ⟨B, hB⟩ : ∃ B, blocksAt c = B := ⟨_, rfl⟩
  rw [hss] at b1 b2 k3 k4
  rw [hm] at m1 m2 k3 k4 HSL
  rw [hB] at k1 k2 k3 k4 ⊢
  have HSS := Lib.hid hss
  have K3 := Lib.hid k3; have K4 := Lib.hid k4
  clear hss hm hB k3 k4
  go_enter Tryd.func60, Tryd.ntmps60
  go_wp2
  go_loopw [3] (fun i wr => Counting w B i wr) (fun i _ => B + 1 - (intOf i).toNat)
  case atStart => exact ⟨0, Nat.zero_le _, rfl, Below.refl _ _⟩
  case round =>
    obtain ⟨j, hj, rfl, hb⟩ := hrel
    have B2 := Lib.hid hb
    have sr := hb.size
    clear hb
    have q0 : ((j : Int) + 1) * (s : Int) = (((j + 1) * s : Nat) : Int) := by rw [Int.natCast_mul]; rfl
    have hle : (j + 1) * s ≤ 66560 := Nat.le_trans (Nat.mul_le_mul (show j + 1 ≤ 65 by omega) b2) (by decide)
    have q1 : (0 : Int) ≤ ((j : Int) + 1) * (s : Int) := by rw [q0]; omega
    have q2 : ((j : Int) + 1) * (s : Int) ≤ 66560 := by rw [q0]; omega
    have w1 : IntKind.u64.wrap (((j : Int) + 1) * (s : Int)) = ((j : Int) + 1) * (s : Int) := u64_in _ ⟨q1, by omega⟩
    have w2 : IntKind.u64.wrap ((j : Int) + 1) = (j : Int) + 1 := u64_in _ ⟨by omega, by omega⟩
    have w3 : IntKind.u64.wrap (m : Int) = (m : Int) := u64_in _ ⟨by omega, by omega⟩
    have w4 : IntKind.u64.wrap (1024 * (m : Int)) = 1024 * (m : Int) := u64_in _ ⟨by omega, by omega⟩
    have w5' : IntKind.i64.wrap ((j : Int) + 1) = (j : Int) + 1 := IntWalk.i64_in _ ⟨by omega, by omega⟩
    have p1 : (0 : Int) ≤ (c : Int) := by omega
    have p2 : (c : Int) < 12 := by omega
    by_cases hlt : j < B
    · have t1 : decide (((j : Int) + 1) * (s : Int) ≤ 1024 * (m : Int)) = true := decide_eq_true (by
        have := K3.out
        have h2 : (j + 1) * s ≤ B * s := Nat.mul_le_mul_right s hlt
        rw [q0]; omega)
      clear q0 hle
      go_wp2
      go_region_with (first
        | (go_at_call 61; refine (ref_sizes _).mono ?_; rintro e w5 ⟨g, rfl, hz, hg, hb⟩; have hcell := hz.cell hc; rw [HSS.out] at hcell; have Z := Lib.hid hz; have B5 := Lib.hid (B2.out.drew.trans (hb.mono sr)); clear hz hg hb)
        | (go_at_call 59; refine (HSL.out _).mono ?_; rintro e w6 ⟨rfl, hb⟩; have hcell := (Z.out.below hb).cell hc; rw [HSS.out] at hcell; have B6 := Lib.hid (B5.out.trans (hb.mono B5.out.size)); clear hb))
      all_goals
        clear w1 w2 w3 w4 w5'
        go_wp2
        go_roundw
        case rel => exact ⟨j + 1, by omega, by go_num, B6.out⟩
        case measure => simp [intOf]; omega
    · obtain rfl : j = B := by omega
      have t1 : decide (((j : Int) + 1) * (s : Int) ≤ 1024 * (m : Int)) = false := decide_eq_false (by
        have := K4.out
        rw [q0]; omega)
      clear q0 hle
      go_wp2
      go_region_with (first
        | (go_at_call 61; refine (ref_sizes _).mono ?_; rintro e w5 ⟨g, rfl, hz, hg, hb⟩; have hcell := hz.cell hc; rw [HSS.out] at hcell; have Z := Lib.hid hz; have B5 := Lib.hid (B2.out.drew.trans (hb.mono sr)); clear hz hg hb)
        | (go_at_call 59; refine (HSL.out _).mono ?_; rintro e w6 ⟨rfl, hb⟩; have hcell := (Z.out.below hb).cell hc; rw [HSS.out] at hcell; have B6 := Lib.hid (B5.out.trans (hb.mono B5.out.size)); clear hb))
      all_goals
        clear w1 w2 w3 w4 w5'
        go_wp2
        go_ret
        exact ⟨rfl, B6.out⟩
end Go.Proofs.YtomepdgddpajoaaDoor
