/- One act on both ledgers: At and In. -/
import Derived.Test.YtclmdjkihijciaaDocJ
import Derived.Laws.StructEq
namespace Go.Proofs.Ytclmdjkihijciaa
open Go.RowKit LedMath
set_option linter.unusedVariables false
set_option maxRecDepth 100000 in
set_option maxHeartbeats 4000000 in
theorem do_told {w0 w : World} {lb mb : Nat} {T U : Nat → Prop} {L : List En} {sa : Option Addr} {sn sc a n g : Nat} {xs : List Nat} (h : PL w0 lb mb T U L L w) (hx : Seq Elem.u64s w (.slice sa sn sc) xs) (lo : 0 < xs.length → ∀ k, In (.slice sa sn sc) k → k < w0.heap.size) (ha : U64B a) (hn : U64B n) (hg : U64B g) :
    Calls Try.prog 6 #[ptrV lb 0, ptrV mb 0, .agg #[.int .i64 4, .int .u64 (a : Int), .int .u64 (n : Int), .int .u64 (g : Int), .slice sa sn sc]] w fun r w' => r = .returned (.bool true) ∧ ∃ T' U', PL w0 lb mb T' U' L L w' := by
  obtain ⟨q, hq⟩ : ∃ q, w.heap.size = q := ⟨_, rfl⟩
  have hd := DB.start (cs := #[.int .i64 4, .int .u64 (a : Int), .int .u64 (n : Int), .int .u64 (g : Int), .slice sa sn sc]) h hx lo
  rw [hq] at hd
  obtain ⟨⟨⟨p1, p2, p3⟩, pe⟩, hEp⟩ : ∃ A, toldE (atL L a) = A := ⟨_, rfl⟩
  obtain ⟨⟨⟨r1, r2, r3⟩, re⟩, hEr⟩ : ∃ A, toldE (inL L a) = A := ⟨_, rfl⟩
  have HA : Hid (∀ T U w', DB w0 lb mb q #[.int .i64 4, .int .u64 (a : Int), .int .u64 (n : Int), .int .u64 (g : Int), .slice sa sn sc] (.slice sa sn sc) xs T U L L w' → Calls Try.prog 13 #[ptrV lb 0, .int .u64 (a : Int)] w' fun r w2 => r = .returned (.tuple #[.agg #[.int .u64 (p1 : Int), .int .u64 (p2 : Int), .int .u64 (p3 : Int)], .int .i64 (pe : Int)]) ∧ DB w0 lb mb q #[.int .i64 4, .int .u64 (a : Int), .int .u64 (n : Int), .int .u64 (g : Int), .slice sa sn sc] (.slice sa sn sc) xs T U L L w2 ∧ Below w'.heap.size w' w2) := Lib.hid fun T U w' k => by
    have := At_any w' (x := a) k.pl.led
    rw [hEp] at this
    exact this.mono fun r w2 z => ⟨z.1, k.grew z.2, z.2⟩
  have HB : Hid (∀ T U w', DB w0 lb mb q #[.int .i64 4, .int .u64 (a : Int), .int .u64 (n : Int), .int .u64 (g : Int), .slice sa sn sc] (.slice sa sn sc) xs T U L L w' → Calls Try.prog 20 #[ptrV mb 0, .int .u64 (a : Int)] w' fun r w2 => r = .returned (.tuple #[.agg #[.int .u64 (p1 : Int), .int .u64 (p2 : Int), .int .u64 (p3 : Int)], .int .i64 (pe : Int)]) ∧ DB w0 lb mb q #[.int .i64 4, .int .u64 (a : Int), .int .u64 (n : Int), .int .u64 (g : Int), .slice sa sn sc] (.slice sa sn sc) xs T U L L w2 ∧ Below w'.heap.size w' w2) := Lib.hid fun T U w' k => by
    have := doc_At w' (x := a) k.pl.doc
    rw [hEp] at this
    exact this.mono fun r w2 z => ⟨z.1, k.grew z.2, z.2⟩
  have HC : Hid (∀ T U w', DB w0 lb mb q #[.int .i64 4, .int .u64 (a : Int), .int .u64 (n : Int), .int .u64 (g : Int), .slice sa sn sc] (.slice sa sn sc) xs T U L L w' → Calls Try.prog 21 #[ptrV lb 0, .int .u64 (a : Int)] w' fun r w2 => r = .returned (.tuple #[.agg #[.int .u64 (r1 : Int), .int .u64 (r2 : Int), .int .u64 (r3 : Int)], .int .i64 (re : Int)]) ∧ DB w0 lb mb q #[.int .i64 4, .int .u64 (a : Int), .int .u64 (n : Int), .int .u64 (g : Int), .slice sa sn sc] (.slice sa sn sc) xs T U L L w2 ∧ Below w'.heap.size w' w2) := Lib.hid fun T U w' k => by
    have := In_any w' (x := a) k.pl.led
    rw [hEr] at this
    exact this.mono fun r w2 z => ⟨z.1, k.grew z.2, z.2⟩
  have HI : Hid (∀ T U w', DB w0 lb mb q #[.int .i64 4, .int .u64 (a : Int), .int .u64 (n : Int), .int .u64 (g : Int), .slice sa sn sc] (.slice sa sn sc) xs T U L L w' → Calls Try.prog 22 #[ptrV mb 0, .int .u64 (a : Int)] w' fun r w2 => r = .returned (.tuple #[.agg #[.int .u64 (r1 : Int), .int .u64 (r2 : Int), .int .u64 (r3 : Int)], .int .i64 (re : Int)]) ∧ DB w0 lb mb q #[.int .i64 4, .int .u64 (a : Int), .int .u64 (n : Int), .int .u64 (g : Int), .slice sa sn sc] (.slice sa sn sc) xs T U L L w2 ∧ Below w'.heap.size w' w2) := Lib.hid fun T U w' k => by
    have := doc_In w' k.pl.doc ha
    rw [hEr] at this
    exact this.mono fun r w2 z => ⟨z.1, k.grew z.2, z.2⟩
  obtain ⟨W0, hW⟩ : ∃ W0, w.alloc (.cells #[.int .i64 4, .int .u64 (a : Int), .int .u64 (n : Int), .int .u64 (g : Int), .slice sa sn sc] 38) = W0 := ⟨_, rfl⟩
  rw [hW] at hd
  obtain ⟨T0, hT0⟩ : ∃ T0, (fun k => T k ∧ k < q) = T0 := ⟨_, rfl⟩
  obtain ⟨U0, hU0⟩ : ∃ U0, (fun k => U k ∧ k < q) = U0 := ⟨_, rfl⟩
  rw [hT0, hU0] at hd
  have ST := Lib.hid hd
  have b0 : W0.cell? ⟨q, 0, none⟩ = some (.int .i64 4) := hd.bx.cell 0
  have b1 : W0.cell? ⟨q, 1, none⟩ = some (.int .u64 (a : Int)) := hd.bx.cell 1
  have b2 : W0.cell? ⟨q, 2, none⟩ = some (.int .u64 (n : Int)) := hd.bx.cell 2
  have b3 : W0.cell? ⟨q, 3, none⟩ = some (.int .u64 (g : Int)) := hd.bx.cell 3
  have HW := Lib.hid hW
  clear hd hEp hEr h hx ha hn hg lo hT0 hU0 b2 b3
  go_enter Try.func6, Try.ntmps6
  go_wp2_with fail
  refine (HA.out _ _ _ ST.out).mono ?_
  rintro r w1 ⟨rfl, hst, hb⟩
  have hb2 := (Below.refl w1.heap.size w1).alloc (Nat.le_refl _) (.cells #[.int .u64 (p1 : Int), .int .u64 (p2 : Int), .int .u64 (p3 : Int)] 35)
  replace ST := Lib.hid (hst.grew hb2)
  have X1 := Lib.hid (BoxB.start w1 p1 p2 p3)
  have e1 : w1.cell? ⟨q, 1, none⟩ = some (.int .u64 (a : Int)) := hst.bx.cell 1
  have e2 : (w1.alloc (.cells #[.int .u64 (p1 : Int), .int .u64 (p2 : Int), .int .u64 (p3 : Int)] 35)).cell? ⟨q, 1, none⟩ = some (.int .u64 (a : Int)) := ST.out.bx.cell 1
  clear hst hb hb2
  go_wp2_with fail
  refine (HB.out _ _ _ ST.out).mono ?_
  rintro r w2 ⟨rfl, hst, hb⟩
  replace X1 := Lib.hid (X1.out.grew hb)
  have hb2 := (Below.refl w2.heap.size w2).alloc (Nat.le_refl _) (.cells #[.int .u64 (p1 : Int), .int .u64 (p2 : Int), .int .u64 (p3 : Int)] 35)
  replace ST := Lib.hid (hst.grew hb2)
  replace X1 := Lib.hid (X1.out.grew hb2)
  have X2 := Lib.hid (BoxB.start w2 p1 p2 p3)
  have e1 : w2.cell? ⟨q, 1, none⟩ = some (.int .u64 (a : Int)) := hst.bx.cell 1
  have e2 : (w2.alloc (.cells #[.int .u64 (p1 : Int), .int .u64 (p2 : Int), .int .u64 (p3 : Int)] 35)).cell? ⟨q, 1, none⟩ = some (.int .u64 (a : Int)) := ST.out.bx.cell 1
  clear hst hb hb2
  go_wp2_with fail
  refine (HC.out _ _ _ ST.out).mono ?_
  rintro r w3 ⟨rfl, hst, hb⟩
  replace X1 := Lib.hid (X1.out.grew hb)
  replace X2 := Lib.hid (X2.out.grew hb)
  have hb2 := (Below.refl w3.heap.size w3).alloc (Nat.le_refl _) (.cells #[.int .u64 (r1 : Int), .int .u64 (r2 : Int), .int .u64 (r3 : Int)] 35)
  replace ST := Lib.hid (hst.grew hb2)
  replace X1 := Lib.hid (X1.out.grew hb2)
  replace X2 := Lib.hid (X2.out.grew hb2)
  have X3 := Lib.hid (BoxB.start w3 r1 r2 r3)
  have e1 : w3.cell? ⟨q, 1, none⟩ = some (.int .u64 (a : Int)) := hst.bx.cell 1
  have e2 : (w3.alloc (.cells #[.int .u64 (r1 : Int), .int .u64 (r2 : Int), .int .u64 (r3 : Int)] 35)).cell? ⟨q, 1, none⟩ = some (.int .u64 (a : Int)) := ST.out.bx.cell 1
  clear hst hb hb2
  go_wp2_with fail
  refine (HI.out _ _ _ ST.out).mono ?_
  rintro r w4 ⟨rfl, hst, hb⟩
  replace X1 := Lib.hid (X1.out.grew hb)
  replace X2 := Lib.hid (X2.out.grew hb)
  replace X3 := Lib.hid (X3.out.grew hb)
  have hb2 := (Below.refl w4.heap.size w4).alloc (Nat.le_refl _) (.cells #[.int .u64 (r1 : Int), .int .u64 (r2 : Int), .int .u64 (r3 : Int)] 35)
  replace ST := Lib.hid (hst.grew hb2)
  replace X1 := Lib.hid (X1.out.grew hb2)
  replace X2 := Lib.hid (X2.out.grew hb2)
  replace X3 := Lib.hid (X3.out.grew hb2)
  have X4 := Lib.hid (BoxB.start w4 r1 r2 r3)
  have e1 : w4.cell? ⟨q, 1, none⟩ = some (.int .u64 (a : Int)) := hst.bx.cell 1
  have e2 : (w4.alloc (.cells #[.int .u64 (r1 : Int), .int .u64 (r2 : Int), .int .u64 (r3 : Int)] 35)).cell? ⟨q, 1, none⟩ = some (.int .u64 (a : Int)) := ST.out.bx.cell 1
  clear hst hb hb2
  obtain ⟨c10, c11, c12⟩ := X1.out.c
  obtain ⟨c20, c21, c22⟩ := X2.out.c
  obtain ⟨c30, c31, c32⟩ := X3.out.c
  obtain ⟨c40, c41, c42⟩ := X4.out.c
  have z1 : ((pe : Int) == (pe : Int)) = true := by simp
  have z2 : ((re : Int) == (re : Int)) = true := by simp
  go_wp2_with fail
  go_ret
  exact ⟨rfl, _, _, ST.out.pl⟩
end Go.Proofs.Ytclmdjkihijciaa
