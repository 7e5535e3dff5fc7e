/- The law SegOwners, walked. -/
import Derived.Test.YtomepdgddpajoaaDoorAliveS
import Derived.Test.YtomepdgddpajoaaDoorPtrN
namespace Go.Proofs.YtomepdgddpajoaaDoor.segOwners
open Go.RowKit ListMath PageMath GeoMath SegMath ClassMath
set_option linter.unusedVariables false

theorem u64_bd {n : Int} (h : (Lit.int .u64 n).wf = true) : 0 ≤ n ∧ n ≤ 18446744073709551615 := by
  simp [Lit.wf, IntKind.min, IntKind.max, IntKind.signed, IntKind.bits] at h; omega
theorem infoCell : (Tryd.prog.info? 99).map (·.size) = some 3 := by kernel_rfl
theorem ptr_neq {w : World} {a b : Addr} {ta tb : TypeId} {ca cb : Array Value} (ha : Blk w a.block ta ca) (hb : Blk w b.block tb cb) (hne : a.block ≠ b.block) :
    (binOp .neq 77 (.pointer (some a)) (.pointer (some b))).run Tryd.prog w = .ok (.bool true) w := by
  have hi := infoCell
  cases hj : Tryd.prog.info? 99 with
  | none => rw [hj] at hi; cases hi
  | some j =>
    rw [hj] at hi
    exact run_neq_ptr_other Tryd.underlying77 hj (by simp at hi; omega) (fun e => hne (by rw [e])) ha hb
section
variable {w : World} {C : SgC w} {sp tp p g : Nat} {I J : Nat → Prop} {c d : Addr} {L : List Nat} {X Y : SG} {w' w2 : World}
/-- Two segments side by side; no block is both's own. -/
structure Both (C : SgC w) (sp tp p g : Nat) (I J : Nat → Prop) (c d : Addr) (L : List Nat) (X Y : SG) (w' : World) : Prop where
  s : OSg C sp p g I c L X w'
  t : OSg C tp p g J d L Y w'
  ne : ∀ b, I b → ¬ J b
  nx : ∀ o ∈ X.L, ¬ J o.op ∧ ¬ J o.pp
  ny : Y.L = []
theorem Both.grew (h : Both C sp tp p g I J c d L X Y w') (hb : Below w'.heap.size w' w2) : Both C sp tp p g I J c d L X Y w2 := ⟨h.s.grew hb, h.t.grew hb, h.ne, h.nx, h.ny⟩
theorem Both.drew (h : Both C sp tp p g I J c d L X Y w') : Both C sp tp p g I J c d L X Y w'.drew := h.grew (Below.refl _ _).drew
theorem Both.outT (h : Both C sp tp p g I J c d L X Y w') {b : Nat} (hb : I b) : ¬ SO p g J Y b := fun x => by
  rcases x with rfl | rfl | x | ⟨o, ho, _⟩
  · exact h.s.sg.sep.1 hb
  · exact h.s.sg.sep.2.1 hb
  · exact h.ne b hb x
  · rw [h.ny] at ho; cases ho
theorem Both.outS (h : Both C sp tp p g I J c d L X Y w') {b : Nat} (hb : J b) : ¬ SO p g I X b := fun x => by
  rcases x with rfl | rfl | x | ⟨o, ho, rfl | rfl⟩
  · exact h.t.sg.sep.1 hb
  · exact h.t.sg.sep.2.1 hb
  · exact h.ne b x hb
  · exact (h.nx o ho).1 hb
  · exact (h.nx o ho).2 hb
theorem lowI (h : OSg C sp p g I c L X w') {b : Nat} (hb : I b) : w.heap.size ≤ b := h.lo b (.inr (.inr (.inl hb)))
theorem bo_sload (h : Both C sp tp p g I J c d L X Y w') (ht : X.ot ≤ 1000000000) : Calls Tryd.prog 36 #[.pointer (some c)] w' fun e w2 => e = .returned (.tuple #[.int .u64 (X.ow : Int), .int .u64 (X.ot : Int)]) ∧ Both C sp tp p g I J c d L { X with oa := X.oa + 1 } Y w2 :=
  (C.oload w' h.s.below h.s.sg ht).mono fun e w2 ⟨k1, k2, k3⟩ => ⟨k1, ⟨h.s.step k2 (updI k3) Grown.refl, h.t.upd k3 fun b hb => ⟨h.outT hb, lowI h.s hb⟩, h.ne, h.nx, h.ny⟩⟩
theorem bo_tload (h : Both C sp tp p g I J c d L X Y w') (ht : Y.ot ≤ 1000000000) : Calls Tryd.prog 36 #[.pointer (some d)] w' fun e w2 => e = .returned (.tuple #[.int .u64 (Y.ow : Int), .int .u64 (Y.ot : Int)]) ∧ Both C sp tp p g I J c d L X { Y with oa := Y.oa + 1 } w2 :=
  (C.oload w' h.t.below h.t.sg ht).mono fun e w2 ⟨k1, k2, k3⟩ => ⟨k1, ⟨h.s.upd k3 fun b hb => ⟨h.outS hb, lowI h.t hb⟩, h.t.step k2 (updI k3) Grown.refl, h.ne, h.nx, h.ny⟩⟩
theorem bo_sstore (h : Both C sp tp p g I J c d L X Y w') (ht : X.ot ≤ 1000000000) {y : Nat} (hy : U64B y) : Calls Tryd.prog 37 #[.pointer (some c), .int .u64 (y : Int)] w' fun e w2 => e = .returned (.tuple #[]) ∧ Both C sp tp p g I J c d L { X with ow := y, ot := X.ot + 1, oa := X.oa + 1 } Y w2 :=
  (C.ostore w' h.s.below h.s.sg ht hy).mono fun e w2 ⟨k1, k2, k3⟩ => ⟨k1, ⟨h.s.step k2 (updI k3) Grown.refl, h.t.upd k3 fun b hb => ⟨h.outT hb, lowI h.s hb⟩, h.ne, h.nx, h.ny⟩⟩
theorem bo_tstore (h : Both C sp tp p g I J c d L X Y w') (ht : Y.ot ≤ 1000000000) {y : Nat} (hy : U64B y) : Calls Tryd.prog 37 #[.pointer (some d), .int .u64 (y : Int)] w' fun e w2 => e = .returned (.tuple #[]) ∧ Both C sp tp p g I J c d L X { Y with ow := y, ot := Y.ot + 1, oa := Y.oa + 1 } w2 :=
  (C.ostore w' h.t.below h.t.sg ht hy).mono fun e w2 ⟨k1, k2, k3⟩ => ⟨k1, ⟨h.s.upd k3 fun b hb => ⟨h.outS hb, lowI h.t hb⟩, h.t.step k2 (updI k3) Grown.refl, h.ne, h.nx, h.ny⟩⟩
theorem bo_sowner (h : Both C sp tp p g I J c d L X Y w') : Calls Tryd.prog 35 #[.pointer (some ⟨sp, 0, none⟩)] w' fun e w2 => e = .returned (.pointer (some c)) ∧ Both C sp tp p g I J c d L X Y w2 :=
  (C.owner w' h.s.below h.s.sg).mono fun e w2 ⟨k1, k2⟩ => ⟨k1, h.grew k2⟩
theorem bo_towner (h : Both C sp tp p g I J c d L X Y w') : Calls Tryd.prog 35 #[.pointer (some ⟨tp, 0, none⟩)] w' fun e w2 => e = .returned (.pointer (some d)) ∧ Both C sp tp p g I J c d L X Y w2 :=
  (C.owner w' h.t.below h.t.sg).mono fun e w2 ⟨k1, k2⟩ => ⟨k1, h.grew k2⟩
theorem bo_pcell (h : Both C sp tp p g I J c d L X Y w') {o : OwR} (ho : o ∈ X.L) : Calls Tryd.prog 38 #[.pointer (some ⟨o.pp, 0, none⟩)] w' fun e w2 => e = .returned (.pointer (some ⟨o.pp, 10, none⟩)) ∧ Both C sp tp p g I J c d L X Y w2 :=
  (pg_cell (h.s.sg.pg o ho).1).mono fun e w2 ⟨k1, k2⟩ => ⟨k1, h.grew k2⟩
/-- A page's cell is loaded: nothing but its page's block is written. -/
theorem bo_pload (h : Both C sp tp p g I J c d L X Y w') {o : OwR} (ho : o ∈ X.L) (ht : o.P.ct ≤ 18446744073709551615) : Calls Tryd.prog 36 #[.pointer (some ⟨o.pp, 10, none⟩)] w' fun e w2 => e = .returned (.tuple #[.int .u64 (o.P.cw : Int), .int .u64 (o.P.ct : Int)]) ∧ Both C sp tp p g I J c d L (X.put o.pp o.P.asked) Y w2 := by
  obtain ⟨h1, h2, h3, h4⟩ := h.s.sg.pg o ho
  refine (cellw_load w' (h1.mod ht)).mono ?_
  rintro e w2 ⟨rfl, k1, k2⟩
  rw [ct_mod ht, wrap_ask] at k1
  have kr : RPg w2 o.pp p g L o.P.asked := h1.ofCell (S := o.P) (x := o.P.cw) (t := o.P.ct) (a := o.P.ca + 1) (by rwa [← ct_mod ht] at k1 ⊢) k2 rfl
  have u : Upd (fun b => b = o.pp) w' w2 := k2.upd.mono fun b hb => by
    rcases hb with hb | ⟨i, hb, _⟩
    · exact hb.elim
    · exact hb
  refine ⟨rfl, h.s.turn ho ⟨kr, h2.ask, h3, h4, rfl, rfl⟩ (wrtOOc k2) (Agree.refl L []) (fun y hy => by cases hy) ⟨rfl, rfl, rfl⟩, h.t.upd u fun b hb => ⟨fun x => ?_, ?_⟩, h.ne, fun x hx => ?_, h.ny⟩
  · subst hb
    rcases x with x | x | x | ⟨y, hy, _⟩
    · exact h1.np x
    · exact h1.ng x
    · exact (h.nx o ho).2 x
    · rw [h.ny] at hy; cases hy
  · subst hb; exact h.s.lo _ (.inr (.inr (.inr ⟨o, ho, .inr rfl⟩)))
  · obtain ⟨y, hy, rfl⟩ := put_mem.1 hx
    obtain ⟨e1, e2, e3, e4, e5⟩ := put_lo y o.pp o.P.asked
    rw [e3, e4]; exact h.nx y hy
end
set_option maxHeartbeats 8000000 in
set_option maxRecDepth 100000 in
theorem walk_of (w : World) (C : SgC w) (x : Int) (h1 : (Lit.int .u64 x).wf = true) (y : Int) (h2 : (Lit.int .u64 y).wf = true) :
    Calls Tryd.prog 7 #[.int .u64 x, .int .u64 y] w fun e w' => e = .returned (.bool true) ∧ Below w.heap.size w w' := by
  have b1 := u64_bd h1
  obtain ⟨x, rfl⟩ := Int.eq_ofNat_of_zero_le b1.1
  have b2 := u64_bd h2
  obtain ⟨y, rfl⟩ := Int.eq_ofNat_of_zero_le b2.1
  have bx : U64B x := by show x ≤ _; omega
  have bY : U64B y := by show y ≤ _; omega
  have HA := Lib.hid (alive_s w C)
  clear h1 h2 b1 b2
  go_enter Tryd.func7, Tryd.ntmps7
  go_wp2_with fail
  refine HA.out.mono ?_; rintro e w1 ⟨rfl, hb⟩
  have B1 := Lib.hid hb; clear hb
  go_wp2_with fail
  refine (newMem 65536 (by decide) (by decide) (by decide) _).mono ?_; rintro e w2 ⟨p, g, L0, rfl, hm, hlen, fp, fg, hb⟩
  have M2 := Lib.hid hm; have B2 := Lib.hid (below_then B1.out B1.out.size hb); have N2 := Lib.hid hlen
  have fp' := Nat.le_trans B1.out.size fp; have fg' := Nat.le_trans B1.out.size fg
  clear hm hlen hb fp fg
  go_wp2_with fail
  refine (os_new (C := C) (pl := 0) B2.out M2.out fp' fg' N2.out (by decide)).mono ?_; rintro e w3 ⟨sp, c, I, rfl, hh, hI, hb⟩
  have H3 := Lib.hid hh; have M3 := Lib.hid (M2.out.upd (updFalse_of hb) id id); have B3 := Lib.hid (below_then B2.out B2.out.size hb)
  clear hh hI hb
  go_wp2_with fail
  refine (os_new (C := C) (pl := 1) B3.out M3.out fp' fg' N2.out (by decide)).mono ?_; rintro e w4 ⟨tp, d, J, rfl, hh, hJ, hb⟩
  have hIJ : ∀ b, I b → ¬ J b := fun b h1 h2 => by
    have h3 := H3.out.sg.lt (.inr (.inr (.inl h1)))
    have h4 := hJ b h2
    omega
  have hnx : ∀ o ∈ (newSG 0).L, ¬ J o.op ∧ ¬ J o.pp := fun o ho => by cases ho
  have BO := Lib.hid (show Both C sp tp p g I J c d L0 (newSG 0) (newSG 1) w4 from ⟨H3.out.grew hb, hh, hIJ, hnx, rfl⟩)
  clear hh hJ hb fp' fg' hIJ hnx
  go_wp2_with fail
  refine (C.page _ BO.out.s.below BO.out.s.sg (n := 0) (a := 1) (by decide) low_new1).mono ?_; rintro e w5 ⟨op, pp, I5, rfl, k2, k3, k4, k5, k6⟩
  have hIJ : ∀ b, I5 b → ¬ J b := fun b h1 h2 => by
    rcases k5 b h1 with z | z
    · exact BO.out.ne b z h2
    · have := BO.out.t.sg.lt (.inr (.inr (.inl h2))); omega
  have hJl : ∀ b, w4.heap.size ≤ b → ¬ J b := fun b h1 h2 => by have := BO.out.t.sg.lt (.inr (.inr (.inl h2))); omega
  have hnx : ∀ o ∈ ((newSG 0).add op pp ((0 : Nat) : Int) 1 (slicesAt 0) (blocksAt 0) (sizeAt 0)).L, ¬ J o.op ∧ ¬ J o.pp := fun o ho => by
    rcases insR_mem.1 (show o ∈ insR _ _ from ho) with rfl | ⟨ho, _⟩
    · exact ⟨hJl _ k3, hJl _ k4⟩
    · cases ho
  have BP := Lib.hid (show Both C sp tp p g I5 J c d L0 ((newSG 0).add op pp ((0 : Nat) : Int) 1 (slicesAt 0) (blocksAt 0) (sizeAt 0)) (newSG 1) w5 from ⟨BO.out.s.step k2 (updI k6) (grown_add k3 k4 k5), BO.out.t.upd k6 (fun b hb => ⟨BO.out.outT hb, lowI BO.out.s hb⟩), hIJ, hnx, rfl⟩)
  obtain ⟨o, ho⟩ : ∃ o, (⟨op, pp, ((0 : Nat) : Int), 1, slicesAt 0, newPG (fromS 0 1) (sizeAt 0) (blocksAt 0)⟩ : OwR) = o := ⟨_, rfl⟩
  have mo : o ∈ ((newSG 0).add op pp ((0 : Nat) : Int) 1 (slicesAt 0) (blocksAt 0) (sizeAt 0)).L := by rw [← ho]; exact insR_mem.2 (.inl rfl)
  have eop : o.op = op := by rw [← ho]
  have epp : o.pp = pp := by rw [← ho]
  have ecw : o.P.cw = 0 ∧ o.P.ct = 0 := by rw [← ho]; exact ⟨rfl, rfl⟩
  obtain ⟨X, hX⟩ : ∃ X, (newSG 0).add op pp ((0 : Nat) : Int) 1 (slicesAt 0) (blocksAt 0) (sizeAt 0) = X := ⟨_, rfl⟩
  have eX : X.ow = 0 ∧ X.ot = 0 ∧ X.oa = 0 := by rw [← hX]; exact ⟨rfl, rfl, rfl⟩
  rw [hX] at BP mo
  have EX := Lib.hid eX; have ECW := Lib.hid ecw; have MO := Lib.hid mo; have EOP := Lib.hid eop; have EPP := Lib.hid epp
  clear k2 k3 k4 k5 k6 hIJ hJl hnx ho hX mo eop epp ecw eX BO
  -- s.Owner().Load()
  go_wp2_with fail
  refine (bo_sowner BP.out).mono ?_; rintro e w6 ⟨rfl, hh⟩
  have hld := bo_sload hh (by rw [EX.out.2.1]; decide)
  rw [EX.out.1, EX.out.2.1] at hld
  have LD := Lib.hid hld
  clear hh hld
  go_wp2_with fail
  refine LD.out.mono ?_; rintro e w7 ⟨rfl, hh⟩
  have B7 := Lib.hid hh; clear hh LD
  -- s.Owner().Store(x)
  go_wp2_with fail
  refine (bo_sowner B7.out).mono ?_; rintro e w8 ⟨rfl, hh⟩
  have SS := Lib.hid (bo_sstore hh (show (0 : Nat) ≤ 1000000000 by decide) bx)
  clear hh
  go_wp2_with fail
  refine SS.out.mono ?_; rintro e w9 ⟨rfl, hh⟩
  have B9 := Lib.hid hh; clear hh SS
  -- t.Owner().Store(y)
  go_wp2_with fail
  refine (bo_towner B9.out).mono ?_; rintro e w10 ⟨rfl, hh⟩
  have SS := Lib.hid (bo_tstore hh (by decide) bY)
  clear hh
  go_wp2_with fail
  refine SS.out.mono ?_; rintro e w11 ⟨rfl, hh⟩
  have B11 := Lib.hid hh; clear hh SS
  -- s.Owner().Load()
  go_wp2_with fail
  refine (bo_sowner B11.out).mono ?_; rintro e w12 ⟨rfl, hh⟩
  have LD := Lib.hid (bo_sload hh (show (0 + 1 : Nat) ≤ 1000000000 by decide))
  clear hh
  go_wp2_with fail
  refine LD.out.mono ?_; rintro e w13 ⟨rfl, hh⟩
  have B13 := Lib.hid hh; clear hh LD
  -- t.Owner().Load()
  go_wp2_with fail
  refine (bo_towner B13.out).mono ?_; rintro e w14 ⟨rfl, hh⟩
  have LD := Lib.hid (bo_tload hh (show (0 + 1 : Nat) ≤ 1000000000 by decide))
  clear hh
  go_wp2_with fail
  refine LD.out.mono ?_; rintro e w15 ⟨rfl, hh⟩
  have B15 := Lib.hid hh; clear hh LD
  -- p.Cell().Load()
  have mo15 : o ∈ ({ { { X with oa := X.oa + 1 } with ow := x, ot := X.ot + 1, oa := X.oa + 1 + 1 } with oa := X.oa + 1 + 1 + 1 } : SG).L := MO.out
  have c0 : w15.cell? ⟨op, 0, none⟩ = some (.pointer (some ⟨pp, 0, none⟩)) := by have := B15.out.s.c0 MO.out; rw [EOP.out, EPP.out] at this; exact this
  have pc := bo_pcell B15.out MO.out
  rw [EPP.out] at pc
  have PC := Lib.hid pc
  clear pc mo15
  go_wp2_with fail
  refine PC.out.mono ?_; rintro e w16 ⟨rfl, hh⟩
  have pl := bo_pload hh MO.out (by rw [ECW.out.2]; decide)
  rw [EPP.out, ECW.out.1, ECW.out.2] at pl
  have PL := Lib.hid pl
  clear hh pl PC c0
  go_wp2_with fail
  refine PL.out.mono ?_; rintro e w17 ⟨rfl, hh⟩
  obtain ⟨XX, hXX⟩ : ∃ XX, ({ pl := X.pl, K := X.K, L := X.L, ow := x, ot := 0 + 1, oa := X.oa + 1 + 1 + 1 } : SG).put pp o.P.asked = XX := ⟨_, rfl⟩
  have mo' : ({ o with P := o.P.asked } : OwR) ∈ XX.L := by rw [← hXX]; exact put_mem.2 ⟨o, MO.out, (if_pos EPP.out).symm⟩
  rw [hXX] at hh
  revert hh
  generalize ({ pl := (newSG 1).pl, K := (newSG 1).K, L := (newSG 1).L, ow := y, ot := (newSG 1).ot + 1, oa := (newSG 1).oa + 1 + 1 } : SG) = YY
  intro hh
  have ST := Lib.hid hh
  have MO' := Lib.hid mo'
  have HS := Lib.hid (fun (w' : World) (k : Both C sp tp p g I5 J c d L0 XX YY w') => bo_sowner k)
  have HT := Lib.hid (fun (w' : World) (k : Both C sp tp p g I5 J c d L0 XX YY w') => bo_towner k)
  have hc := fun (w' : World) (k : Both C sp tp p g I5 J c d L0 XX YY w') => bo_pcell k MO'.out
  simp only [] at hc
  rw [EPP.out] at hc
  have HC := Lib.hid hc
  have hcc := fun (w' : World) (k : Both C sp tp p g I5 J c d L0 XX YY w') => (show w'.cell? ⟨op, 0, none⟩ = some (.pointer (some ⟨pp, 0, none⟩)) by have := k.s.c0 MO'.out; simp only [] at this; rw [EOP.out, EPP.out] at this; exact this)
  have HCC := Lib.hid hcc
  have hn1 := fun (w' : World) (k : Both C sp tp p g I5 J c d L0 XX YY w') => (show (binOp .neq 77 (.pointer (some c)) (.pointer (some d))).run Tryd.prog w' = .ok (.bool true) w' by
    obtain ⟨t1, a1, k1⟩ := C.ownB k.s.sg.int
    obtain ⟨t2, a2, k2⟩ := C.ownB k.t.sg.int
    exact ptr_neq k1 k2 fun e => k.ne _ (C.num k.s.sg.int).2.1 (by rw [e]; exact (C.num k.t.sg.int).2.1))
  have HN1 := Lib.hid hn1
  have hn2 := fun (w' : World) (k : Both C sp tp p g I5 J c d L0 XX YY w') => (show (binOp .neq 77 (.pointer (some c)) (.pointer (some ⟨pp, 10, none⟩))).run Tryd.prog w' = .ok (.bool true) w' by
    obtain ⟨t1, a1, k1⟩ := C.ownB k.s.sg.int
    have k2 := (k.s.sg.pg _ MO'.out).1.B
    simp only [] at k2
    rw [EPP.out] at k2
    refine ptr_neq (b := ⟨pp, 10, none⟩) k1 k2 fun e => (k.s.sg.sep.2.2 _ MO'.out).2.1 ?_
    show I5 o.pp
    rw [EPP.out, ← show c.block = pp from e]
    exact (C.num k.s.sg.int).2.1)
  have HN2 := Lib.hid hn2
  have c0 := HCC.out _ hh; have n1 := HN1.out _ hh; have n2 := HN2.out _ hh; have n1d := HN1.out _ hh.drew; have n2d := HN2.out _ hh.drew
  clear hh mo' hXX hc hcc hn1 hn2
  go_wp2_with fail
  go_region_held3 (fun w' => w'.cell? ⟨op, 0, none⟩ = some (.pointer (some ⟨pp, 0, none⟩)) ∧ (binOp .neq 77 (.pointer (some c)) (.pointer (some d))).run Tryd.prog w' = .ok (.bool true) w' ∧ (binOp .neq 77 (.pointer (some c)) (.pointer (some ⟨pp, 10, none⟩))).run Tryd.prog w' = .ok (.bool true) w') (first | exact ⟨c0, n1, n2⟩ | exact ⟨c0, n1d, n2d⟩ | go_keep)
    (first
      | (go_at_call 38; (first | (with_reducible refine (HC.out _ ST.out.drew).mono ?_) | (with_reducible refine (HC.out _ ST.out).mono ?_)); rintro e w5 ⟨rfl, hh⟩; have ST := Lib.hid hh; have c0 := HCC.out _ hh; have n1 := HN1.out _ hh; have n2 := HN2.out _ hh; have n1d := HN1.out _ hh.drew; have n2d := HN2.out _ hh.drew; clear hh)
      | (go_at_call 35; (first | (with_reducible refine (HS.out _ ST.out.drew).mono ?_) | (with_reducible refine (HS.out _ ST.out).mono ?_) | (with_reducible refine (HT.out _ ST.out.drew).mono ?_) | (with_reducible refine (HT.out _ ST.out).mono ?_)); rintro e w5 ⟨rfl, hh⟩; have ST := Lib.hid hh; have c0 := HCC.out _ hh; have n1 := HN1.out _ hh; have n2 := HN2.out _ hh; have n1d := HN1.out _ hh.drew; have n2d := HN2.out _ hh.drew; clear hh))
  go_wp2
  go_ret
  exact ⟨rfl, ST.out.s.below⟩
end Go.Proofs.YtomepdgddpajoaaDoor.segOwners
