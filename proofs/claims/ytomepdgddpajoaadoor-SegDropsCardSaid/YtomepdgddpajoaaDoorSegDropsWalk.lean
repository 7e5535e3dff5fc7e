/- The law SegDrops, walked. -/
import Derived.Test.YtomepdgddpajoaaDoorAliveS
import Derived.Test.YtomepdgddpajoaaDoorDoS
import Derived.Test.YtomepdgddpajoaaDoorSegMath2
namespace Go.Proofs.YtomepdgddpajoaaDoor.segDrops
open Go.RowKit ListMath PageMath GeoMath SegMath ClassMath
set_option linter.unusedVariables false

theorem u8_bd {n : Int} (h : (Lit.int .u8 n).wf = true) : 0 ≤ n ∧ n ≤ 255 := by
  simp [Lit.wf, IntKind.min, IntKind.max, IntKind.signed, IntKind.bits] at h; omega
theorem left_newK : MarkMath.left newK = 15 := by decide
/-- What freeing the one block that came of a new page leaves. -/
def P1 (f s n : Nat) : PG := fresh f s n 1
def P2 (f s n : Nat) : PG := { P1 f s n with G := f :: (P1 f s n).G, used := (P1 f s n).used - 1 }
theorem alloc_first {f s n : Nat} (hn : 1 ≤ n) : allocP (newPG f s n) = (P1 f s n, f, 0) := by
  rw [← fresh_zero f s n, fresh_alloc hn]; simp [P1]
theorem first_out {f s n : Nat} (hs : 1 ≤ s) : f ∉ (P1 f s n).F ∧ f ∉ (P1 f s n).G := by
  refine ⟨fun h => ?_, fun h => by cases h⟩
  obtain ⟨j, _, e⟩ := news_mem (show f ∈ news f s 1 (mk 1 n - 1) from h)
  have : 1 * s ≤ (1 + j) * s := Nat.mul_le_mul_right s (by omega)
  omega
theorem first_blk {f s n : Nat} (hn : 1 ≤ n) : IsBlk (P1 f s n).f (P1 f s n).s (P1 f s n).made f := ⟨0, by show 0 < mk 1 n; unfold mk; omega, by show f = f + 0 * s; omega⟩
theorem low_le {K : List Bool} {k b : Nat} (hk : 1 ≤ k) (h : MarkMath.allAt K b k false) : ∃ a, MarkMath.low K k = some a ∧ a ≤ b := by
  cases hl : MarkMath.low K k with
  | none => exact absurd h (MarkMath.low_none hk hl b)
  | some a =>
    have hL := MarkMath.low_some hk hl
    refine ⟨a, rfl, ?_⟩
    rcases Nat.lt_or_ge b a with x | x
    · exact absurd h (hL.2 b x)
    · exact x
section
variable {w : World} {C : SgC w} {sp p g : Nat} {I : Nat → Prop} {c : Addr} {L : List Nat} {X : SG} {w' : World}
/-- Drop: nothing but the segment's own is written. -/
theorem os_drop' (h : OSg C sp p g I c L X w') {n : Int} (hn : I64B n) :
    Calls Tryd.prog 18 #[.pointer (some ⟨sp, 0, none⟩), .int .i64 n] w' fun e w2 => ∃ I', e = .returned (.int .i64 (dropE X n).2) ∧ OSg C sp p g I' c L (dropE X n).1 w2 ∧ (∀ b, I' b → I b ∨ w'.heap.size ≤ b) ∧ Upd I w' w2 :=
  (C.drop w' h.below h.sg hn).mono fun e w2 ⟨I', k1, k2, k3, k4⟩ => ⟨I', k1, h.step k2 (updI k4) (grown_drop k3), k3, k4⟩
theorem os_big' (h : OSg C sp p g I c L X w') {n a : Nat} (h1 : 1 ≤ n) (h2 : n ≤ 15) (hl : MarkMath.low X.K n = some a) :
    Calls Tryd.prog 15 #[.pointer (some ⟨sp, 0, none⟩), .int .i64 (n : Int)] w' fun e w2 => ∃ op pp I', e = .returned (.tuple #[.pointer (some ⟨op, 0, none⟩), .int .i64 0]) ∧ OSg C sp p g I' c L (X.add op pp (-1) a n 1 (n * 1024)) w2 ∧ Upd I w' w2 :=
  (C.big w' h.below h.sg h1 h2 hl).mono fun e w2 ⟨op, pp, I', k1, k2, k3, k4, k5, k6⟩ => ⟨op, pp, I', k1, h.step k2 (updI k6) (grown_add k3 k4 k5), k6⟩
end
set_option maxHeartbeats 8000000 in
set_option maxRecDepth 100000 in
theorem walk_of (w : World) (C : SgC w) {a : Option Addr} {n cap : Nat} (len : Nat) (F : Nat → Nat → Value) (hr : Recs w (.slice a n cap) [.num .i64, .num .i64, .num .u64] len F) (m : Int) (h1 : (Lit.int .u8 m).wf = true) :
    Calls Tryd.prog 5 #[.slice a n cap, .int .u8 m] w fun e w' => e = .returned (.bool true) ∧ Below w.heap.size w w' := by
  obtain ⟨rfl, hn1, hn2⟩ := hr.len
  have b1 := u8_bd h1
  obtain ⟨m, rfl⟩ := Int.eq_ofNat_of_zero_le b1.1
  have b1' : m ≤ 255 := by omega
  have HA := Lib.hid (alive_s w C)
  have HF := Lib.hid hr
  clear h1 b1 hr
  go_enter Tryd.func5, Tryd.ntmps5
  go_wp2_with fail
  refine HA.out.mono ?_; rintro e w1 ⟨rfl, hb⟩
  have B1 := Lib.hid hb; clear hb
  go_wp2_with fail
  refine (newMem 65536 (by decide) (by decide) (by decide) _).mono ?_; rintro e w2 ⟨p, g, L0, rfl, hm, hlen, fp, fg, hb⟩
  have M2 := Lib.hid hm; have B2 := Lib.hid (below_then B1.out B1.out.size hb); have N2 := Lib.hid hlen
  have fp' := Nat.le_trans B1.out.size fp; have fg' := Nat.le_trans B1.out.size fg
  clear hm hlen hb fp fg
  go_wp2_with fail
  refine (os_new (C := C) (pl := 0) B2.out M2.out fp' fg' N2.out (by decide)).mono ?_; rintro e w3 ⟨sp, c, I, rfl, hh, _, _⟩
  have H3 := Lib.hid hh
  clear hh fp' fg'
  by_cases hl60 : 60 < n
  · have t1 : decide ((60 : Int) < (n : Int)) = true := decide_eq_true (by omega)
    have t1' : decide (60 < n) = true := decide_eq_true hl60
    go_wp2
    go_ret
    exact ⟨rfl, H3.out.below⟩
  have hl60' : n ≤ 60 := by omega
  have t1 : decide ((60 : Int) < (n : Int)) = false := decide_eq_false (by omega)
  have t1' : decide (60 < n) = false := decide_eq_false hl60
  go_wp2_with fail
  refine (do_any w C H3.out HF.out hl60').mono ?_; rintro e w4 ⟨rfl, I4, X, hh, hd, _, _⟩
  have H4 := Lib.hid hh; have D4 := Lib.hid hd
  clear hh hd t1 t1' hl60 hl60'
  go_wp2_with fail
  refine (os_pages H4.out).mono ?_; rintro e w5 ⟨av, k, cv, rfl, hq, q2, q3, hin, hh, _⟩
  have hk : k = X.L.length := by have := hq.len; rw [List.length_map] at this; exact this
  have hk15 : k ≤ 15 := by rw [hk]; exact H4.out.sg.good.count
  have H5 := Lib.hid hh; have Q5 := Lib.hid hq; have HK := Lib.hid hk
  clear hh hq hin hk q2 q3
  by_cases hk0 : k = 0
  · subst hk0
    have hem : X.L = [] := List.eq_nil_of_length_eq_zero HK.out.symm
    have hlf := os_left H5.out
    have hKe : X.K = newK := by
      refine MarkMath.ext_getD H5.out.sg.good.len fun j hj => ?_
      have hj16 : j < 16 := by rw [← H5.out.sg.good.len]; exact hj
      have hm := H5.out.sg.good.mark j hj16
      rw [hem] at hm
      rw [MarkMath.getD_def hj false true]
      have e : ∀ j : Nat, j < 16 → (newK.getD j false = decide (j = 0)) := by decide
      rw [e j hj16]
      by_cases h0 : j = 0
      · rw [decide_eq_true h0]; exact hm.2 (.inl h0)
      · rw [decide_eq_false h0]
        cases hk : X.K.getD j true with
        | false => rfl
        | true =>
          rcases hm.1 hk with x | ⟨o, ho, _⟩
          · exact absurd x h0
          · cases ho
    rw [hKe, left_newK] at hlf
    have LF := Lib.hid hlf
    clear hem hlf hKe
    go_wp2_with fail
    refine LF.out.mono ?_; rintro e w6 ⟨rfl, hh, _⟩
    have H6 := Lib.hid hh; clear hh
    go_wp2
    go_ret
    exact ⟨rfl, H6.out.below⟩
  have hkp : 1 ≤ k := by omega
  have t2 : ((k : Int) == 0) = false := by rw [beq_eq_false_iff_ne]; omega
  obtain ⟨i, hi⟩ : ∃ i, m % k = i := ⟨_, rfl⟩
  have hik : i < k := by rw [← hi]; exact Nat.mod_lt _ (by omega)
  have hm1 : Int.tmod (m : Int) (k : Int) = (i : Int) := by rw [← hi]; exact (Int.ofNat_tmod _ _).symm
  obtain ⟨o, hoe⟩ : ∃ o, X.L[i]? = some o := ⟨X.L[i]'(by rw [← HK.out]; exact hik), List.getElem?_eq_getElem _⟩
  have hoL : o ∈ X.L := List.mem_of_getElem? hoe
  obtain ⟨b, off, ea, hcell⟩ := Q5.out.elem (show (X.L.map fun o => some (⟨o.op, 0, none⟩ : Addr))[i]? = some (some ⟨o.op, 0, none⟩) by rw [List.getElem?_map, hoe]; rfl)
  have d0 : w5.cell? ⟨b, off + i, none⟩ = some (.pointer (some ⟨o.op, 0, none⟩)) := by
    have h0 := hcell 0 (.pointer (some ⟨o.op, 0, none⟩)) rfl
    simpa [Elem.ptrs] using h0
  subst ea
  have p0 : (0 : Int) ≤ (i : Int) := by omega
  have p1 : (i : Int) < (k : Int) := by omega
  obtain ⟨op, pp, cls, lo, wd, P⟩ := o
  have hP : ∃ f s nn, P = newPG f s nn := by
    rcases D4.out.new _ hoL with x | x
    · cases x
    · exact x
  obtain ⟨f, s, nn, rfl⟩ := hP
  have hfit := H5.out.sg.good.fit _ hoL
  have hsz := (H5.out.sg.good.cls _ hoL).size hfit.2.1
  have h16 : 16 ≤ s := hsz.1
  have hnn : 1 ≤ nn := hsz.2.1
  have f1 : 1 ≤ lo := hfit.1
  have f2 : 1 ≤ wd := hfit.2.1
  have f3 : lo + wd ≤ 16 := hfit.2.2
  have hnI : ¬ I4 op := (H5.out.sg.sep.2.2 _ hoL).1
  have ML := Lib.hid hoL
  clear hoe hoL hcell hfit hsz hi
  simp only [] at d0
  go_wp2_with fail
  have hlf := os_left H5.out
  obtain ⟨lf, hlfe⟩ : ∃ lf, MarkMath.left X.K = lf := ⟨_, rfl⟩
  have hlf15 : lf ≤ 15 := by have := H5.out.sg.good.sum; omega
  have hsum : lf + wd ≤ 15 := by have h1 := H5.out.sg.good.sum; have h2 := sumW_mem ML.out; simp only [] at h2; omega
  rw [hlfe] at hlf
  have LFE := Lib.hid hlfe; have LF := Lib.hid hlf
  clear hlfe hlf
  refine LF.out.mono ?_; rintro e w6 ⟨rfl, hh, _⟩
  have H6 := Lib.hid hh
  clear hh LF d0
  have c0 : w6.cell? ⟨op, 0, none⟩ = some (.pointer (some ⟨pp, 0, none⟩)) := H6.out.c0 ML.out
  have al := H6.out.alloc ML.out
  simp only [] at al
  rw [alloc_first hnn] at al
  have AL := Lib.hid al
  clear al
  go_wp2_with fail
  refine AL.out.mono ?_; rintro e w7 ⟨rfl, L7, hh, _, _⟩
  have H7 := Lib.hid hh
  have m1 : (⟨op, pp, cls, lo, wd, P1 f s nn⟩ : OwR) ∈ (X.put pp (P1 f s nn)).L := put_mem.2 ⟨_, ML.out, (if_pos rfl).symm⟩
  have M1 := Lib.hid m1
  clear hh AL c0
  have c2 : w7.cell? ⟨op, 2, none⟩ = some (.int .i64 (lo : Int)) := H7.out.c2 m1
  have hd : dropE (X.put pp (P1 f s nn)) (lo : Int) = (X.put pp (P1 f s nn), 6) := by
    unfold dropE
    rw [show atS (X.put pp (P1 f s nn)) (lo : Int) = some ⟨op, pp, cls, lo, wd, P1 f s nn⟩ from H7.out.sg.good.atS_of m1]
    simp only []
    rw [if_pos (show 0 < (P1 f s nn).used from Nat.one_pos)]
  have dr := os_drop' H7.out (n := (lo : Int)) ⟨by omega, by omega⟩
  rw [hd] at dr
  have DR := Lib.hid dr
  clear dr hd m1
  go_wp2_with fail
  refine DR.out.mono ?_; rintro e w8 ⟨I8, rfl, hh, hI, _⟩
  have H8 := Lib.hid hh
  have hl7 : op < w7.heap.size := H7.out.sg.lt (.inr (.inr (.inr ⟨_, M1.out, .inl rfl⟩)))
  have hnI8 : ¬ I8 op := fun x => by rcases hI op x with y | y; exact hnI y; omega
  have hlf : Calls Tryd.prog 28 #[.pointer (some ⟨sp, 0, none⟩)] w8 fun e w2 => e = .returned (.int .i64 (lf : Int)) ∧ OSg C sp p g I8 c L7 (X.put pp (P1 f s nn)) w2 ∧ Below w8.heap.size w8 w2 := by
    have := os_left hh
    rw [show (X.put pp (P1 f s nn)).K = X.K from rfl, LFE.out] at this
    exact this
  have LF := Lib.hid hlf
  clear hh hI hlf DR hl7
  go_wp2_with fail
  refine LF.out.mono ?_; rintro e w9 ⟨rfl, hh, _⟩
  have H9 := Lib.hid hh
  clear hh LF c2
  have c0 : w9.cell? ⟨op, 0, none⟩ = some (.pointer (some ⟨pp, 0, none⟩)) := H9.out.c0 M1.out
  have fr := (H9.out.grew ((Below.refl _ w9).alloc (Nat.le_refl _) (.cells #[.int .u64 (f : Int)] 28))).free M1.out (a := some ⟨w9.heap.size, 0, none⟩) (cap := 1) (x := f) (Seq.new (E := Elem.u64s) w9 _ [f] 1) (fun b hb x => by
    have hbe : b = w9.heap.size := by cases hb; rfl
    have := H9.out.sg.lt x
    omega) (first_blk hnn) (first_out (by omega)).1 (first_out (by omega)).2 (Nat.le_refl _)
  have FR := Lib.hid fr
  clear fr
  go_wp2_with fail
  refine FR.out.mono ?_; rintro e w10 ⟨rfl, L10, hh, _, _⟩
  have H10 : Hid (OSg C sp p g I8 c L10 ((X.put pp (P1 f s nn)).put pp (P2 f s nn)) w10) := Lib.hid hh
  clear hh FR c0
  have m2 : (⟨op, pp, cls, lo, wd, P2 f s nn⟩ : OwR) ∈ ((X.put pp (P1 f s nn)).put pp (P2 f s nn)).L := put_mem.2 ⟨_, M1.out, (if_pos rfl).symm⟩
  obtain ⟨Y, hY⟩ : ∃ Y, (X.put pp (P1 f s nn)).put pp (P2 f s nn) = Y := ⟨_, rfl⟩
  have hYK : Y.K = X.K := by rw [← hY]; rfl
  rw [hY] at H10 m2
  have M2' := Lib.hid m2; have YK := Lib.hid hYK
  have c2 : w10.cell? ⟨op, 2, none⟩ = some (.int .i64 (lo : Int)) := H10.out.c2 m2
  have hd : dropE Y (lo : Int) = (Y.cut ⟨op, pp, cls, lo, wd, P2 f s nn⟩, 0) := by
    unfold dropE
    rw [show atS Y (lo : Int) = some ⟨op, pp, cls, lo, wd, P2 f s nn⟩ from H10.out.sg.good.atS_of m2]
    simp only []
    rw [if_neg (show ¬ 0 < (P2 f s nn).used from Nat.lt_irrefl 0)]
  have dr := os_drop' H10.out (n := (lo : Int)) ⟨by omega, by omega⟩
  rw [hd] at dr
  have DR := Lib.hid dr
  have OWN := Lib.hid (H10.out.sg.own _ m2)
  clear dr hd m2 hY hYK
  go_wp2_with fail
  refine DR.out.mono ?_; rintro e w11 ⟨I11, rfl, hh, hI, hu⟩
  have H11 := Lib.hid hh
  have own11 := OWN.out.upd hu hnI8
  have hnI11 : ¬ I11 op := fun x => by
    rcases hI op x with y | y
    · exact hnI8 y
    · have := OWN.out.lt; omega
  obtain ⟨Z, hZ⟩ : ∃ Z, Y.cut ⟨op, pp, cls, lo, wd, P2 f s nn⟩ = Z := ⟨_, rfl⟩
  have hZat : atS Z (lo : Int) = none := by
    rw [← hZ]
    refine List.find?_eq_none.2 fun x hx => ?_
    have := (List.mem_filter.1 (show x ∈ Y.L.filter _ from hx)).2
    simp at this ⊢
    omega
  have hZK : Z.K = MarkMath.setAt X.K lo wd false := by rw [← hZ]; show MarkMath.setAt Y.K lo wd false = _; rw [YK.out]
  rw [hZ] at H11
  have hd : dropE Z (lo : Int) = (Z, 5) := by unfold dropE; rw [hZat]
  have dr := os_drop' H11.out (n := (lo : Int)) ⟨by omega, by omega⟩
  rw [hd] at dr
  have DR := Lib.hid dr; have ZK := Lib.hid hZK; have OWN := Lib.hid own11
  clear dr hd hh hI hu c2 hZ hZat hZK own11
  have c2 : w11.cell? ⟨op, 2, none⟩ = some (.int .i64 (lo : Int)) := OWN.out.cell 2
  go_wp2_with fail
  refine DR.out.mono ?_; rintro e w12 ⟨I12, rfl, hh, hI, hu⟩
  have own12 := OWN.out.upd hu hnI11
  have H12 := Lib.hid hh
  have hnI12 : ¬ I12 op := fun x => by
    rcases hI op x with y | y
    · exact hnI11 y
    · have := OWN.out.lt; omega
  have hlk : lo + wd ≤ X.K.length := by rw [H6.out.sg.good.len]; omega
  have htk : MarkMath.allAt X.K lo wd true := H6.out.sg.good.taken ML.out
  have hleft : MarkMath.left Z.K = lf + wd := by rw [ZK.out, MarkMath.left_back hlk htk, LFE.out]
  have hfree : MarkMath.allAt Z.K lo wd false := by rw [ZK.out]; exact MarkMath.allAt_setAt false hlk
  obtain ⟨na, hna, hnal⟩ := low_le f2 hfree
  have hna2 := (MarkMath.low_some f2 hna).1
  have hlen2 : na + wd ≤ Z.K.length := hna2.le f2
  have hlast : MarkMath.left (MarkMath.setAt Z.K na wd true) + wd = lf + wd := by rw [MarkMath.left_setAt hlen2 hna2, hleft]
  have OWN := Lib.hid own12; have NA := Lib.hid hna; have LAST := Lib.hid hlast
  have hlf : Calls Tryd.prog 28 #[.pointer (some ⟨sp, 0, none⟩)] w12.drew fun e w2 => e = .returned (.int .i64 ((lf + wd : Nat) : Int)) ∧ OSg C sp p g I12 c L10 Z w2 ∧ Below w12.drew.heap.size w12.drew w2 := by
    have := os_left hh.drew
    rw [hleft] at this
    exact this
  have LF := Lib.hid hlf
  have c3 : w12.cell? ⟨op, 3, none⟩ = some (.int .i64 (wd : Int)) := own12.cell 3
  clear hh hI hu c2 own12 hlk htk hleft hfree hna hna2 hlen2 hlast hlf DR
  go_wp2_with fail
  have wl : IntKind.i64.wrap ((lf : Int) + (wd : Int)) = (lf : Int) + (wd : Int) := IntWalk.i64_in _ ⟨by omega, by omega⟩
  go_region_held3 (fun w' => w'.cell? ⟨op, 3, none⟩ = some (.int .i64 (wd : Int))) (first | go_keep | exact c3)
    (first
      | (go_at_call 28; (with_reducible refine LF.out.mono ?_); rintro e w13 ⟨rfl, hh, hb⟩; have H13 := Lib.hid hh; have OWN3 := Lib.hid (OWN.out.drew.grew hb); have c3 : w13.cell? ⟨op, 3, none⟩ = some (.int .i64 (wd : Int)) := OWN3.out.cell 3; clear hh hb))
  clear c3
  have c3 : w13.cell? ⟨op, 3, none⟩ = some (.int .i64 (wd : Int)) := OWN3.out.cell 3
  have ebc : ((lf + wd : Nat) : Int) = (lf : Int) + (wd : Int) := by omega
  have hwd15 : wd ≤ 15 := by omega
  have bg := os_big' H13.out (n := wd) f2 hwd15 NA.out
  have BG := Lib.hid bg
  clear bg LF
  go_wp2_with fail
  refine BG.out.mono ?_; rintro e w14 ⟨op2, pp2, I14, rfl, hh, hu⟩
  have own14 := OWN3.out.upd hu hnI12
  have m3 : (⟨op2, pp2, -1, na, wd, newPG (fromS Z.pl na) (wd * 1024) 1⟩ : OwR) ∈ (Z.add op2 pp2 (-1) na wd 1 (wd * 1024)).L := insR_mem.2 (.inl rfl)
  have e2 : w14.cell? ⟨op2, 2, none⟩ = some (.int .i64 (na : Int)) := hh.c2 m3
  have c2 : w14.cell? ⟨op, 2, none⟩ = some (.int .i64 (lo : Int)) := own14.cell 2
  have hll : MarkMath.left (Z.add op2 pp2 (-1) na wd 1 (wd * 1024)).K = lf := by
    have := LAST.out
    show MarkMath.left (MarkMath.setAt Z.K na wd true) = lf
    omega
  have hlf : Calls Tryd.prog 28 #[.pointer (some ⟨sp, 0, none⟩)] w14.drew fun e w2 => e = .returned (.int .i64 (lf : Int)) ∧ OSg C sp p g I14 c L10 (Z.add op2 pp2 (-1) na wd 1 (wd * 1024)) w2 ∧ Below w14.drew.heap.size w14.drew w2 := by
    have := os_left hh.drew
    rw [hll] at this
    exact this
  have LF := Lib.hid hlf
  have H14 := Lib.hid hh
  have hc2 : ∀ w', Below w14.drew.heap.size w14.drew w' → w'.cell? ⟨op2, 2, none⟩ = some (.int .i64 (na : Int)) ∧ w'.cell? ⟨op, 2, none⟩ = some (.int .i64 (lo : Int)) := fun w' hb => ⟨(hh.drew.grew hb).c2 m3, (own14.drew.grew hb).cell 2⟩
  have HC2 := Lib.hid hc2
  have t5 : decide ((na : Int) ≤ (lo : Int)) = true := decide_eq_true (by omega)
  have t5' : decide (na ≤ lo) = true := decide_eq_true hnal
  clear c3 hh hu m3 hll hlf own14 BG hc2
  go_wp2_with fail
  go_region_held3 (fun w' => w'.cell? ⟨op2, 2, none⟩ = some (.int .i64 (na : Int)) ∧ w'.cell? ⟨op, 2, none⟩ = some (.int .i64 (lo : Int))) (first | go_keep | exact ⟨e2, c2⟩)
    (first
      | (go_at_call 28; (with_reducible refine LF.out.mono ?_); rintro e w15 ⟨rfl, hh, hb⟩; have H15 := Lib.hid hh; have e2 := (HC2.out _ hb).1; have c2 := (HC2.out _ hb).2; clear hh hb))
  go_wp2
  go_ret
  exact ⟨rfl, H15.out.below⟩
end Go.Proofs.YtomepdgddpajoaaDoor.segDrops
