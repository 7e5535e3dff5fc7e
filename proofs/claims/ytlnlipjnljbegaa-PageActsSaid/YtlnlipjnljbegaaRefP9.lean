/- The document's own page (allotmentref09): Given, Back, Post, Gather: contracts. -/
import Derived.Test.YtlnlipjnljbegaaPageWh
import Derived.Test.YtlnlipjnljbegaaRefG3
import Derived.Test.YtlnlipjnljbegaaSame7
import Derived.Deep.RegionHeld3
import Derived.Deep.RegionLaw
namespace Go.Proofs.Ytlnlipjnljbegaa
open Go.RowKit ListMath PageMath GeoMath
set_option linter.unusedVariables false

/-- A row of numbers in a slice, in no block of A. -/
def Rw (A : Nat → Prop) (w : World) (a : Option Addr) (cap : Nat) (l : List Nat) : Prop :=
  Seq Elem.u64s w (.slice a l.length cap) l ∧ l.length ≤ cap ∧ cap ≤ 9223372036854775807 ∧ ∀ b, In (.slice a l.length cap) b → ¬ A b ∧ b < w.heap.size
theorem Rw.upd {A Z : Nat → Prop} {w w' : World} {a : Option Addr} {cap : Nat} {l : List Nat} (h : Rw A w a cap l) (u : Upd Z w w') (hZ : ∀ b, Z b → A b) : Rw A w' a cap l :=
  ⟨h.1.upd u fun b hb hz => (h.2.2.2 b hb).1 (hZ b hz), h.2.1, h.2.2.1, fun b hb => ⟨(h.2.2.2 b hb).1, Nat.lt_of_lt_of_le (h.2.2.2 b hb).2 u.size⟩⟩
theorem Rw.nil (A : Nat → Prop) (w : World) : Rw A w none 0 [] := ⟨Seq.nil _, Nat.le_refl _, by decide, fun b hb => by cases hb⟩
theorem Rw.re {A A' : Nat → Prop} {w : World} {a : Option Addr} {cap : Nat} {l : List Nat} (h : Rw A w a cap l) (hA : ∀ b, A' b → A b ∨ w.heap.size ≤ b) : Rw A' w a cap l :=
  ⟨h.1, h.2.1, h.2.2.1, fun b hb => ⟨fun x => by rcases hA b x with y | y; exact (h.2.2.2 b hb).1 y; have := (h.2.2.2 b hb).2; omega, (h.2.2.2 b hb).2⟩⟩
/-- The cells of the document's page. -/
def pgC (S : PG) (vF vG vP : Value) : Array Value := #[.int .u64 (S.f : Int), .int .u64 (S.s : Int), .int .i64 (S.n : Int), .int .i64 (S.made : Int), .int .i64 (S.used : Int), vF, vG, vP, .int .u64 (S.ct : Int), .int .i64 (S.ca : Int)]
/-- The document's page at block q: the state S, the posted row P; its rows lie in no block of A, nor in q. -/
structure RP (A : Nat → Prop) (w : World) (q : Nat) (S : PG) (P : List Nat) : Prop where
  out : ∃ aF cF aG cG aP cP, Blk w q 40 (pgC S (.slice aF S.F.length cF) (.slice aG S.G.length cG) (.slice aP P.length cP)) ∧ Rw (fun b => A b ∨ b = q) w aF cF S.F ∧ Rw (fun b => A b ∨ b = q) w aG cG S.G ∧ Rw (fun b => A b ∨ b = q) w aP cP P
  nq : ¬ A q
/-- Numbers that fit. -/
structure FitP (S : PG) : Prop where
  may : mayN S.f S.s (S.n : Int) = true
  f : S.f ≤ 1048576
  s : S.s ≤ 1048576
  n : S.n ≤ 1024
  made : S.made ≤ S.n
  used : S.used ≤ 1000000
  ct : S.ct ≤ 1000000
  ca : S.ca ≤ 1000000
  lF : S.F.length ≤ 1024
  lG : S.G.length ≤ 1024
section
variable {A A' Z : Nat → Prop} {w w' : World} {q : Nat} {S : PG} {P : List Nat}
theorem RP.lt (h : RP A w q S P) : q < w.heap.size := by obtain ⟨_, _, _, _, _, _, k, _⟩ := h.out; exact k.lt
theorem RP.upd (h : RP A w q S P) (u : Upd Z w w') (hZ : ∀ b, Z b → A b) : RP A w' q S P := by
  obtain ⟨aF, cF, aG, cG, aP, cP, k, h1, h2, h3⟩ := h.out
  exact ⟨⟨aF, cF, aG, cG, aP, cP, k.upd u (fun x => h.nq (hZ q x)), h1.upd u fun b x => Or.inl (hZ b x), h2.upd u fun b x => Or.inl (hZ b x), h3.upd u fun b x => Or.inl (hZ b x)⟩, h.nq⟩
theorem RP.grew (h : RP A w q S P) (hb : Below w.heap.size w w') : RP A w' q S P := h.upd (updFalse_of hb) fun _ x => x.elim
theorem RP.alloc (h : RP A w q S P) (o : Obj) : RP A (w.alloc o) q S P := h.grew ((Below.refl _ w).alloc (Nat.le_refl _) o)
theorem RP.drew (h : RP A w q S P) : RP A w.drew q S P := h.grew (Below.refl _ _).drew
theorem RP.re (h : RP A w q S P) (hA : ∀ b, A' b → A b ∨ w.heap.size ≤ b) : RP A' w q S P := by
  obtain ⟨aF, cF, aG, cG, aP, cP, k, h1, h2, h3⟩ := h.out
  have hA2 : ∀ b, (A' b ∨ b = q) → (A b ∨ b = q) ∨ w.heap.size ≤ b := fun b hb => by
    rcases hb with x | x
    · rcases hA b x with y | y
      · exact Or.inl (Or.inl y)
      · exact Or.inr y
    · exact Or.inl (Or.inr x)
  exact ⟨⟨aF, cF, aG, cG, aP, cP, k, h1.re hA2, h2.re hA2, h3.re hA2⟩, fun x => by rcases hA q x with y | y; exact h.nq y; have := k.lt; omega⟩
end
/-- Another row ahead, in a new block. -/
theorem Rw.new {A : Nat → Prop} {w w' : World} {v : Value} {l : List Nat} (hv : Vec Elem.u64s w' v l) (hin : ∀ b, In v b → w.heap.size ≤ b) (hA : ∀ b, A b → b < w.heap.size) : ∃ a cap, v = .slice a l.length cap ∧ Rw A w' a cap l := by
  obtain ⟨a, cap, rfl, h1, h2⟩ := hv.slice'
  exact ⟨a, cap, rfl, hv.seq, h1, h2, fun b hb => ⟨fun x => by have h3 := hin b hb; have h4 := hA b x; omega, hv.lt hb⟩⟩
theorem i64s_in (n : Int) (h : -9223372036854775808 ≤ n ∧ n ≤ 9223372036854775807) : IntKind.i64.wrap n = n := by
  simp [IntKind.wrap, IntKind.bits, IntKind.signed]; omega
set_option maxHeartbeats 1000000 in
theorem refp_given (w : World) {A : Nat → Prop} {q : Nat} {S : PG} {P : List Nat} (h : RP A w q S P) (f : FitP S) (a : Nat) (ha : U64B a) :
    Calls Try.prog 18 #[.pointer (some ⟨q, 0, none⟩), .int .u64 (a : Int)] w fun e w' => e = .returned (.int .i64 (givenE S a)) ∧ RP A w' q S P ∧ Below w.heap.size w w' := by
  obtain ⟨aF, cF, aG, cG, aP, cP, k, _⟩ := h.out
  have h1 := f.f; have h2 := f.s; have h3 := f.n
  have IX := Lib.hid (ref_index w S.f S.s (S.n : Int) a (show S.f ≤ _ by omega) (show S.s ≤ _ by omega) ⟨by omega, by omega⟩ ha)
  unfold runV at IX
  obtain ⟨ix, hix⟩ : ∃ x, indexN S.f S.s (S.n : Int) a = x := ⟨_, rfl⟩
  obtain ⟨ie, hie⟩ : ∃ x, indexE S.f S.s (S.n : Int) a = x := ⟨_, rfl⟩
  have hixb : ix ≤ 1099511627776 := by
    rw [← hix]; unfold indexN; split
    · rename_i hh
      have h4 := Nat.div_le_self (a - S.f) S.s
      have h5 := (hits_iff.1 hh.2.1).2
      have h6 := may_iff.1 hh.1
      omega
    · omega
  have hg : givenE S a = if ie = 0 then (if ix < S.made then 0 else 5) else ie := by unfold givenE; rw [hix, hie]
  rw [hix, hie] at IX
  rw [hg]
  have c0 : w.cell? ⟨q, 0, none⟩ = some (.int .u64 (S.f : Int)) := k.cell 0
  have c1 : w.cell? ⟨q, 1, none⟩ = some (.int .u64 (S.s : Int)) := k.cell 1
  have c2 : w.cell? ⟨q, 2, none⟩ = some (.int .i64 (S.n : Int)) := k.cell 2
  have KK := Lib.hid k; have RR := Lib.hid h
  obtain ⟨md, hmd⟩ : ∃ x, S.made = x := ⟨_, rfl⟩
  have HMD := Lib.hid hmd
  rw [hmd]
  clear k h hix hie hg hmd
  by_cases he : ie = 0
  · subst he
    rw [if_pos rfl]
    by_cases hm : ix < md
    · rw [if_pos hm]
      have t2 : decide ((md : Int) ≤ (ix : Int)) = false := decide_eq_false (by omega)
      have t2' : decide (md ≤ ix) = false := decide_eq_false (by omega)
      clear hm
      go_enter Try.func18, Try.ntmps18
      go_wp2_with fail
      refine IX.out.mono ?_; rintro e w1 ⟨rfl, hb⟩
      have c3 : w1.cell? ⟨q, 3, none⟩ = some (.int .i64 (md : Int)) := by rw [← HMD.out]; exact (KK.out.grew hb).cell 3
      have B1 := Lib.hid hb
      clear hb c0 c1 c2
      go_wp2
      go_ret
      exact ⟨rfl, RR.out.grew B1.out, B1.out⟩
    · rw [if_neg hm]
      have t2 : decide ((md : Int) ≤ (ix : Int)) = true := decide_eq_true (by omega)
      have t2' : decide (md ≤ ix) = true := decide_eq_true (by omega)
      clear hm
      go_enter Try.func18, Try.ntmps18
      go_wp2_with fail
      refine IX.out.mono ?_; rintro e w1 ⟨rfl, hb⟩
      have c3 : w1.cell? ⟨q, 3, none⟩ = some (.int .i64 (md : Int)) := by rw [← HMD.out]; exact (KK.out.grew hb).cell 3
      have B1 := Lib.hid hb
      clear hb c0 c1 c2
      go_wp2
      go_ret
      exact ⟨rfl, RR.out.grew B1.out, B1.out⟩
  · rw [if_neg he]
    have t1 : ((ie : Int) != 0) = true := by rw [bne_iff_ne]; exact he
    clear he
    go_enter Try.func18, Try.ntmps18
    go_wp2_with fail
    refine IX.out.mono ?_; rintro e w1 ⟨rfl, hb⟩
    have B1 := Lib.hid hb
    clear hb c0 c1 c2
    go_wp2
    go_ret
    exact ⟨rfl, RR.out.grew B1.out, B1.out⟩
end Go.Proofs.Ytlnlipjnljbegaa
