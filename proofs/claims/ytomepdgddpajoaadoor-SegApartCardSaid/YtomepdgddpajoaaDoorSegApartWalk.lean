/- The law SegApart, walked. -/
import Derived.Test.YtomepdgddpajoaaDoorAliveS
import Derived.Test.YtomepdgddpajoaaDoorDoS
import Derived.Test.YtomepdgddpajoaaDoorSegMath2
import Derived.Test.YtomepdgddpajoaaDoorPtrN
import Derived.Test.YtomepdgddpajoaaDoorMeetMath
import Derived.Test.YtomepdgddpajoaaDoorQuiet
import Derived.Test.YtomepdgddpajoaaDoorGm
namespace Go.Proofs.YtomepdgddpajoaaDoor.segApart
open Go.RowKit ListMath PageMath GeoMath SegMath ClassMath
set_option linter.unusedVariables false

theorem u16_bd {n : Int} (h : (Lit.int .u16 n).wf = true) : 0 ≤ n ∧ n ≤ 65535 := by
  simp [Lit.wf, IntKind.min, IntKind.max, IntKind.signed, IntKind.bits] at h; omega
def runO (o : OwR) : Rn := (32768 + o.lo * 1024, 1024, (o.wd : Int))
theorem runO_may {o : OwR} (h1 : o.lo ≤ 15) (h2 : o.wd ≤ 15) : mayN (32768 + o.lo * 1024) 1024 (o.wd : Int) = true := by
  rw [may_iff, Int.toNat_natCast]; omega
theorem runO_end {o : OwR} (h1 : o.lo ≤ 15) (h2 : o.wd ≤ 15) : endN (32768 + o.lo * 1024) 1024 (o.wd : Int) = 32768 + o.lo * 1024 + o.wd * 1024 := by
  unfold endN; rw [if_pos (runO_may h1 h2), Int.toNat_natCast]
theorem infoRun : (Tryd.prog.info? 68).map (fun i => (i.zero, i.size, i.bytes)) = some (some (.agg #[.int .u64 0, .int .u64 0, .int .i64 0]), 3, 24) := by kernel_rfl
theorem infoOwned : (Tryd.prog.info? 51).isSome = true := by kernel_rfl
theorem same_owned (w : World) (a : Addr) : (binOp .neq 37 (.pointer (some a)) (.pointer (some a))).run Tryd.prog w = .ok (.bool false) w := by
  have hi := infoOwned
  cases hj : Tryd.prog.info? 51 with
  | none => rw [hj] at hi; cases hi
  | some j => exact run_neq_ptr_same a Tryd.underlying37 hj
theorem rows_rise {l : List OwR} (h : l.Pairwise fun a b => a.lo + a.wd ≤ b.lo) (hf : ∀ o ∈ l, 1 ≤ o.lo ∧ 1 ≤ o.wd ∧ o.lo + o.wd ≤ 16) : meetN (l.map runO) = false := by
  rw [Bool.eq_false_iff]
  intro x
  obtain ⟨i, j, hij, hj, h3⟩ := meetN_iff.1 x
  rw [List.length_map] at hj
  obtain ⟨a, ha⟩ : ∃ a, l[i]? = some a := ⟨l[i]'(by omega), List.getElem?_eq_getElem _⟩
  obtain ⟨b, hb⟩ : ∃ b, l[j]? = some b := ⟨l[j]'hj, List.getElem?_eq_getElem _⟩
  have e1 : (l.map runO).getD i rn0 = runO a := by rw [List.getD_eq_getElem?_getD, List.getElem?_map, ha]; rfl
  have e2 : (l.map runO).getD j rn0 = runO b := by rw [List.getD_eq_getElem?_getD, List.getElem?_map, hb]; rfl
  rw [e1, e2] at h3
  obtain ⟨_, _, _, _, h4, _⟩ := meet2_iff.1 h3
  have h5 := rise_at h hij ha hb
  have f1 := hf a (List.mem_of_getElem? ha)
  have e : endN (runO a).1 (runO a).2.1 (runO a).2.2 = 32768 + a.lo * 1024 + a.wd * 1024 := runO_end (o := a) (by omega) (by omega)
  rw [e] at h4
  have h4' : 32768 + b.lo * 1024 < 32768 + a.lo * 1024 + a.wd * 1024 := h4
  omega
theorem find_in {X : SG} (g : GoodG X) (hp : X.pl = 2) {o : OwR} (h : o ∈ X.L) {q : Nat} (hq : q < o.wd * 1024) : findO X (32768 + o.lo * 1024 + q) = some o ∧ findE X (32768 + o.lo * 1024 + q) = 0 := by
  have f := g.fit o h
  have hn : ¬ (32768 + o.lo * 1024 + q < X.pl * 16384 ∨ X.pl * 16384 + 16384 ≤ 32768 + o.lo * 1024 + q) := by rw [hp]; omega
  have hi : inS X ((32768 + o.lo * 1024 + q - X.pl * 16384) / 1024) = some o := g.inS_of h (by rw [hp]; omega) (by rw [hp]; omega)
  unfold findO findE
  rw [if_neg hn, if_neg hn, hi]
  exact ⟨rfl, rfl⟩
theorem find_zero {X : SG} (g : GoodG X) (hp : X.pl = 2) : findO X 32768 = none ∧ findE X 32768 = 5 := by
  have hn : ¬ (32768 < X.pl * 16384 ∨ X.pl * 16384 + 16384 ≤ 32768) := by rw [hp]; omega
  have hi : inS X ((32768 - X.pl * 16384) / 1024) = none := by
    rw [hp]
    refine List.find?_eq_none.2 fun o ho => ?_
    have := (g.fit o ho).1
    simp; omega
  unfold findO findE
  rw [if_neg hn, if_neg hn, hi]
  exact ⟨rfl, rfl⟩
theorem find_out {X : SG} (hp : X.pl = 2) {a : Nat} (h : a < 32768 ∨ 49152 ≤ a) : findO X a = none ∧ findE X a = 3 := by
  have hn : a < X.pl * 16384 ∨ X.pl * 16384 + 16384 ≤ a := by rw [hp]; omega
  unfold findO findE
  rw [if_pos hn, if_pos hn]
  exact ⟨rfl, rfl⟩
theorem os_find0 {w : World} {C : SgC w} {sp p g : Nat} {I : Nat → Prop} {c : Addr} {L : List Nat} {X : SG} {w' : World} (h : OSg C sp p g I c L X w') (hp : X.pl = 2) : Calls Tryd.prog 23 #[.pointer (some ⟨sp, 0, none⟩), .int .u64 32768] w' fun e w2 => e = .returned (.tuple #[.pointer none, .int .i64 5]) ∧ OSg C sp p g I c L X w2 ∧ Below w'.heap.size w' w2 := by
  obtain ⟨e1, e2⟩ := find_zero h.sg.good hp
  have := os_find h (a := 32768) (by decide)
  rw [e1, e2] at this
  exact this
theorem os_find3 {w : World} {C : SgC w} {sp p g : Nat} {I : Nat → Prop} {c : Addr} {L : List Nat} {X : SG} {w' : World} (h : OSg C sp p g I c L X w') (hp : X.pl = 2) {a : Nat} (ha : U64B a) (h2 : a < 32768 ∨ 49152 ≤ a) : Calls Tryd.prog 23 #[.pointer (some ⟨sp, 0, none⟩), .int .u64 (a : Int)] w' fun e w2 => e = .returned (.tuple #[.pointer none, .int .i64 3]) ∧ OSg C sp p g I c L X w2 ∧ Below w'.heap.size w' w2 := by
  obtain ⟨e1, e2⟩ := find_out hp h2
  have := os_find h ha
  rw [e1, e2] at this
  exact this
/-- The segment, the law's own run in block rb, its row of runs; since w5. -/
structure Sx (w w5 : World) (C : SgC w) (sp p g : Nat) (I : Nat → Prop) (c : Addr) (L : List Nat) (X : SG) (rb f wd : Nat) (v : Value) (R : List Rn) (w' : World) : Prop where
  os : OSg C sp p g I c L X w'
  B : Blk w' rb 68 #[.int .u64 (f : Int), .int .u64 1024, .int .i64 (wd : Int)]
  V : Vec Elem.runs w' v R
  bl : Below w5.heap.size w5 w'
section
variable {w w5 : World} {C : SgC w} {sp p g : Nat} {I : Nat → Prop} {c : Addr} {L : List Nat} {X : SG} {rb f wd : Nat} {v : Value} {R : List Rn} {w' w2 : World}
theorem Sx.grew (h : Sx w w5 C sp p g I c L X rb f wd v R w') (hb : Below w'.heap.size w' w2) : Sx w w5 C sp p g I c L X rb f wd v R w2 := ⟨h.os.grew hb, h.B.grew hb, h.V.upd (updFalse_of hb) (fun _ _ => id), below_then h.bl h.bl.size hb⟩
theorem Sx.drew (h : Sx w w5 C sp p g I c L X rb f wd v R w') : Sx w w5 C sp p g I c L X rb f wd v R w'.drew := h.grew (Below.refl _ _).drew
theorem sx_run (k : Sx w w5 C sp p g I c L X rb f wd v R w') {o : OwR} (ho : o ∈ X.L) : Calls Tryd.prog 31 #[.pointer (some ⟨o.pp, 0, none⟩)] w' fun e w2 => e = .returned (runV o.P.f o.P.s (o.P.n : Int)) ∧ Sx w w5 C sp p g I c L X rb f wd v R w2 :=
  (k.os.run ho).mono fun e w2 ⟨j1, j2, j3⟩ => ⟨j1, k.grew j3⟩
theorem sx_end (k : Sx w w5 C sp p g I c L X rb f wd v R w') (f1 s1 : Nat) (n1 : Int) (h1 : U64B f1) (h2 : U64B s1) (h3 : I64B n1) : Calls Tryd.prog 32 #[runV f1 s1 n1] w' fun e w2 => e = .returned (.int .u64 ((endN f1 s1 n1 : Nat) : Int)) ∧ Sx w w5 C sp p g I c L X rb f wd v R w2 :=
  (code_end w' f1 s1 n1 h1 h2 h3).mono fun e w2 ⟨j1, j2⟩ => ⟨j1, k.grew j2⟩
theorem sx_find (k : Sx w w5 C sp p g I c L X rb f wd v R w') (hp : X.pl = 2) {o : OwR} (ho : o ∈ X.L) {q : Nat} (hq : q < o.wd * 1024) : Calls Tryd.prog 23 #[.pointer (some ⟨sp, 0, none⟩), .int .u64 ((32768 + o.lo * 1024 + q : Nat) : Int)] w' fun e w2 => e = .returned (.tuple #[.pointer (some ⟨o.op, 0, none⟩), .int .i64 0]) ∧ Sx w w5 C sp p g I c L X rb f wd v R w2 := by
  have f := k.os.sg.good.fit o ho
  obtain ⟨e1, e2⟩ := find_in k.os.sg.good hp ho hq
  have := os_find k.os (a := 32768 + o.lo * 1024 + q) (by show _ ≤ 18446744073709551615; omega)
  rw [e1, e2] at this
  exact this.mono fun e w2 ⟨j1, j2, j3⟩ => ⟨j1, k.grew j3⟩
theorem sx_app {w7 w9 : World} {x : Obj} {v2 : Value} {R2 : List Rn} (h5 : OSg C sp p g I c L X w5) (k : Sx w w5 C sp p g I c L X rb f wd v R w7) (bz : Below w5.heap.size w5 w9) (hv : Vec Elem.runs w9 v2 R2) (u : Upd (In v) (w7.alloc x) w9) (hn : ¬ In v rb) : Sx w w5 C sp p g I c L X rb f wd v2 R2 w9 := ⟨h5.grew bz, (k.B.alloc _).upd u hn, hv, bz⟩
end
def SxC (oo opp lo wd rb f : Nat) (w' : World) : Prop := w'.cell? ⟨oo, 0, none⟩ = some (.pointer (some ⟨opp, 0, none⟩)) ∧ w'.cell? ⟨oo, 2, none⟩ = some (.int .i64 (lo : Int)) ∧ w'.cell? ⟨oo, 3, none⟩ = some (.int .i64 (wd : Int)) ∧ w'.cell? ⟨rb, 0, none⟩ = some (.int .u64 (f : Int)) ∧ w'.cell? ⟨rb, 1, none⟩ = some (.int .u64 1024) ∧ w'.cell? ⟨rb, 2, none⟩ = some (.int .i64 (wd : Int))
def ApR (w5 : World) (l : List OwR) (v sl i : Value) (wr : World) : Prop :=
  ∃ t : Nat, t ≤ l.length ∧ i = .int .i64 (t : Int) ∧ sl = .int .i64 ((sumW (l.take t) : Nat) : Int) ∧ Vec Elem.runs wr v ((l.take t).map runO) ∧ (∀ b, In v b → w5.heap.size ≤ b) ∧ Below w5.heap.size w5 wr
set_option maxHeartbeats 8000000 in
set_option maxRecDepth 100000 in
theorem walk_of (w : World) (C : SgC w) (G : Gm w) {a : Option Addr} {n cap : Nat} (len : Nat) (F : Nat → Nat → Value) (hr : Recs w (.slice a n cap) [.num .i64, .num .i64, .num .u64] len F) (m : Int) (h1 : (Lit.int .u16 m).wf = true) :
    Calls Tryd.prog 4 #[.slice a n cap, .int .u16 m] w fun e w' => e = .returned (.bool true) ∧ Below w.heap.size w w' := by
  obtain ⟨rfl, hn1, hn2⟩ := hr.len
  have b1 := u16_bd h1
  obtain ⟨m, rfl⟩ := Int.eq_ofNat_of_zero_le b1.1
  have b1' : m ≤ 65535 := by omega
  have HA := Lib.hid (alive_s w C)
  obtain ⟨i0, hi, hz0, hz1, hz2⟩ := info_parts infoRun
  have HF := Lib.hid hr
  clear h1 b1 hr
  go_enter Tryd.func4, Tryd.ntmps4
  go_wp2_with fail
  refine HA.out.mono ?_; rintro e w1 ⟨rfl, hb⟩
  have B1 := Lib.hid hb; clear hb
  go_wp2_with fail
  refine (newMem 65536 (by decide) (by decide) (by decide) _).mono ?_; rintro e w2 ⟨p, g, L0, rfl, hm, hlen, fp, fg, hb⟩
  have M2 := Lib.hid hm; have B2 := Lib.hid (below_then B1.out B1.out.size hb); have N2 := Lib.hid hlen
  have fp' := Nat.le_trans B1.out.size fp; have fg' := Nat.le_trans B1.out.size fg
  clear hm hlen hb fp fg
  go_wp2_with fail
  refine (os_new (C := C) (pl := 2) B2.out M2.out fp' fg' N2.out (by decide)).mono ?_; rintro e w3 ⟨sp, c, I, rfl, hh, _, _⟩
  have H3 := Lib.hid hh
  clear hh fp' fg'
  by_cases hl60 : 60 < n
  · have t1 : decide ((60 : Int) < (n : Int)) = true := decide_eq_true (by omega)
    have t1' : decide (60 < n) = true := decide_eq_true hl60
    go_wp2
    go_ret
    exact ⟨rfl, H3.out.below⟩
  have hl60' : n ≤ 60 := by omega
  have t1 : decide ((60 : Int) < (n : Int)) = false := decide_eq_false (by omega)
  have t1' : decide (60 < n) = false := decide_eq_false hl60
  go_wp2_with fail
  refine (do_any w C H3.out HF.out hl60').mono ?_; rintro e w4 ⟨rfl, I4, X, hh, hd, _, _⟩
  have H4 := Lib.hid hh; have D4 := Lib.hid hd
  clear hh hd t1 t1' hl60 hl60'
  go_wp2_with fail
  refine (os_pages H4.out).mono ?_; rintro e w5 ⟨av, k, cv, rfl, hq, q2, q3, hin, hh, _⟩
  have hk : k = X.L.length := by have := hq.len; rw [List.length_map] at this; exact this
  have hk15 : k ≤ 15 := by rw [hk]; exact H4.out.sg.good.count
  have hpl : X.pl = 2 := D4.out.pl
  obtain ⟨l, hl⟩ : ∃ l, X.L = l := ⟨_, rfl⟩
  rw [hl] at hk hq
  have H5 := Lib.hid hh; have Q5 := Lib.hid hq; have HK := Lib.hid hk; have HL := Lib.hid hl; have HPL := Lib.hid hpl
  have I0 := Lib.hid (show ApR w5 l (.slice none 0 0) (.int .i64 0) (.int .i64 0) w5 from ⟨0, Nat.zero_le _, rfl, rfl, Vec.nil _, (by intro b hb; cases hb), Below.refl _ _⟩)
  clear hh hq hin hk q2 q3 hl hpl H3 H4
  go_wp2
  go_loopw [9, 10, 49] (fun v sl i wr => ApR w5 l v sl i wr) (fun _ _ i _ => k - (intOf i).toNat)
  case atStart => exact I0.out
  case round =>
    clear I0
    obtain ⟨t, ht, rfl, rfl, hv, hin, hb⟩ := hrel
    rw [← HK.out] at ht
    obtain ⟨R, hR⟩ : ∃ R, (l.take t).map runO = R := ⟨_, rfl⟩
    have hRL : R.length = t := by rw [← hR, List.length_map, List.length_take, ← HK.out]; omega
    rw [hR] at hv
    obtain ⟨a', cap', rfl, hvc1, hvc2⟩ := hv.slice'
    rw [hRL] at hv hin hvc1 ⊢
    have HR0 := Lib.hid hR; have HRL := Lib.hid hRL
    have hvl : ∀ b, In (.slice a' t cap') b → b < wr.heap.size := fun b hb => hv.lt hb
    have HVL := Lib.hid hvl
    obtain ⟨S, hS⟩ : ∃ S, sumW (l.take t) = S := ⟨_, rfl⟩
    rw [hS]
    have HS := Lib.hid hS
    clear hR hRL hvl hS
    have V := Lib.hid hv; have N := Lib.hid hin; have B := Lib.hid hb
    have OS := Lib.hid (H5.out.grew hb)
    by_cases htk : t < k
    · have htl : t < l.length := by rw [← HK.out]; exact htk
      obtain ⟨o, hoe⟩ : ∃ o, l[t]? = some o := ⟨l[t]'htl, List.getElem?_eq_getElem _⟩
      have hoX : o ∈ X.L := by rw [HL.out]; exact List.mem_of_getElem? hoe
      have hfit := OS.out.sg.good.fit _ hoX
      have hrun := OS.out.sg.good.run _ hoX
      have hsz := (OS.out.sg.good.cls _ hoX).size hfit.2.1
      rw [HPL.out] at hrun
      have hmay := runO_may (o := o) (by omega) (by omega)
      have hend := runO_end (o := o) (by omega) (by omega)
      have c0 := OS.out.c0 hoX; have c1 := OS.out.c1 hoX; have c2 := OS.out.c2 hoX; have c3 := OS.out.c3 hoX
      obtain ⟨b, off, ea, hcell⟩ := (Q5.out.upd (updFalse_of hb) (fun _ _ => id)).elem (show (l.map fun o => some (⟨o.op, 0, none⟩ : Addr))[t]? = some (some ⟨o.op, 0, none⟩) by rw [List.getElem?_map, hoe]; rfl)
      have d0 : wr.cell? ⟨b, off + t, none⟩ = some (.pointer (some ⟨o.op, 0, none⟩)) := by
        have h0 := hcell 0 (.pointer (some ⟨o.op, 0, none⟩)) rfl
        simpa [Elem.ptrs] using h0
      subst ea
      have t1 : decide ((t : Int) < (k : Int)) = true := decide_eq_true (by omega)
      have t1' : decide (t < k) = true := decide_eq_true htk
      have p0 : (0 : Int) ≤ (t : Int) := by omega
      have p1 : (t : Int) < (k : Int) := by omega
      obtain ⟨oo, hoo⟩ : ∃ x, o.op = x := ⟨_, rfl⟩
      obtain ⟨opp, hopp⟩ : ∃ x, o.pp = x := ⟨_, rfl⟩
      obtain ⟨lo, hlo⟩ : ∃ x, o.lo = x := ⟨_, rfl⟩
      obtain ⟨wd, hwd⟩ : ∃ x, o.wd = x := ⟨_, rfl⟩
      obtain ⟨f, hff⟩ : ∃ f, 32768 + lo * 1024 = f := ⟨_, rfl⟩
      have f1 : 1 ≤ lo := by omega
      have f2 : 1 ≤ wd := by omega
      have f3 : lo + wd ≤ 16 := by omega
      rw [hoo, hopp] at c0
      rw [hoo] at c1 d0
      rw [hoo, hlo] at c2
      rw [hoo, hwd] at c3
      have wf1 : IntKind.u64.wrap ((lo : Int) * 1024) = (lo : Int) * 1024 := IntWalk.u64_in _ ⟨by omega, by omega⟩
      have wf2 : IntKind.u64.wrap (32768 + (lo : Int) * 1024) = (f : Int) := by rw [show (32768 : Int) + (lo : Int) * 1024 = (f : Int) by omega]; exact IntWalk.u64_in _ ⟨by omega, by omega⟩
      have ef : (32768 : Int) + (lo : Int) * 1024 = (f : Int) := by omega
      have MX := Lib.hid hoX; have HOE := Lib.hid hoe
      have hlt : oo < wr.heap.size := by rw [← hoo]; exact OS.out.sg.lt (.inr (.inr (.inr ⟨o, hoX, .inl rfl⟩)))
      have ne1 : wr.heap.size ≠ oo := by omega
      have ne2 : oo ≠ wr.heap.size := by omega
      clear hv hin hb hcell hoe hoX
      go_wp2_with fail
      go_region
      have hgr : Below wr.heap.size wr (wr.alloc (.cells #[.int .u64 (f : Int), .int .u64 1024, .int .i64 (wd : Int)] 68)).drew := ((Below.refl _ wr).alloc (Nat.le_refl _) _).drew
      have hB : Blk (wr.alloc (.cells #[.int .u64 (f : Int), .int .u64 1024, .int .i64 (wd : Int)] 68)).drew wr.heap.size 68 #[.int .u64 (f : Int), .int .u64 1024, .int .i64 (wd : Int)] := (Blk.new wr _ _).drew
      have hos := OS.out.grew hgr
      have hgr0 := hgr
      obtain ⟨rb, hrb⟩ : ∃ rb, wr.heap.size = rb := ⟨_, rfl⟩
      generalize (wr.alloc (.cells #[.int .u64 (f : Int), .int .u64 1024, .int .i64 (wd : Int)] 68)).drew = W1 at hgr hgr0 hB hos ⊢
      rw [hrb] at hB hgr ⊢
      have ST : Hid (Sx w w5 C sp p g I4 c L0 X rb f wd (.slice a' t cap') R W1) := Lib.hid ⟨hos, hB, V.out.upd (updFalse_of hgr0) (fun _ _ => id), below_then B.out B.out.size hgr0⟩
      have GR := Lib.hid hgr
      have RB := Lib.hid hrb
      clear hgr hgr0 hB hos ne1 ne2 hlt hrb c0 c1 c2 c3 d0 wf1 wf2
      obtain ⟨s0, hs0⟩ : ∃ s0, o.P.s = s0 := ⟨_, rfl⟩
      obtain ⟨n0, hn0⟩ : ∃ n0, o.P.n = n0 := ⟨_, rfl⟩
      have hPf : o.P.f = f := by rw [hrun]; show 2 * 16384 + o.lo * 1024 = f; rw [hlo]; omega
      have hE1 : endN f s0 (n0 : Int) = f + n0 * s0 := by
        have := (OS.out.sg.pg _ MX.out).2.1.may
        rw [hPf, hs0, hn0] at this
        unfold endN; rw [if_pos this, Int.toNat_natCast]
      have hE2 : endN f 1024 (wd : Int) = f + wd * 1024 := by rw [← hff, ← hlo, ← hwd]; exact hend
      rw [hs0, hn0, hwd] at hsz
      have hs0b : s0 ≤ 16384 := by
        have h1 := Nat.mul_le_mul hsz.2.1 (Nat.le_refl s0)
        have := hsz.2.2.2; omega
      have hr1 := fun (v : Value) (R : List Rn) (w' : World) (k : Sx w w5 C sp p g I4 c L0 X rb f wd v R w') => sx_run k MX.out
      rw [hopp, hPf, hs0, hn0] at hr1
      unfold runV at hr1
      have HR := Lib.hid hr1
      have he1 := fun (v : Value) (R : List Rn) (w' : World) (k : Sx w w5 C sp p g I4 c L0 X rb f wd v R w') => sx_end k f s0 (n0 : Int) (by show f ≤ _; omega) (by show s0 ≤ _; omega) ⟨by omega, by omega⟩
      have he2 := fun (v : Value) (R : List Rn) (w' : World) (k : Sx w w5 C sp p g I4 c L0 X rb f wd v R w') => sx_end k f 1024 (wd : Int) (by show f ≤ _; omega) (by decide) ⟨by omega, by omega⟩
      rw [hE1] at he1
      rw [hE2] at he2
      obtain ⟨E1, hE1'⟩ : ∃ E, f + n0 * s0 = E := ⟨_, rfl⟩
      obtain ⟨E2, hE2'⟩ : ∃ E, f + wd * 1024 = E := ⟨_, rfl⟩
      have hEE : E1 ≤ E2 := by have := hsz.2.2.2; omega
      have hE2b : E2 = f + wd * 1024 := hE2'.symm
      rw [hE1'] at he1
      rw [hE2'] at he2
      unfold runV at he1 he2
      rw [show ((1024 : Nat) : Int) = 1024 from rfl] at he2
      have HE1 := Lib.hid he1
      have HE2 := Lib.hid he2
      have hcc := fun (v : Value) (R : List Rn) (w' : World) (k : Sx w w5 C sp p g I4 c L0 X rb f wd v R w') => (show SxC oo opp lo wd rb f w' from ⟨by have := k.os.c0 MX.out; rw [hoo, hopp] at this; exact this, by have := k.os.c2 MX.out; rw [hoo, hlo] at this; exact this, by have := k.os.c3 MX.out; rw [hoo, hwd] at this; exact this, k.B.cell 0, k.B.cell 1, k.B.cell 2⟩)
      have HCC := Lib.hid hcc
      have RF : ∀ w, (Instr.field 68 (.agg #[.int .u64 (f : Int), .int .u64 (s0 : Int), .int .i64 (n0 : Int)]) 0).run Tryd.prog w = .ok (.int .u64 (f : Int)) w := run_f f s0 (n0 : Int)
      have RN : ∀ w, (Instr.field 68 (.agg #[.int .u64 (f : Int), .int .u64 (s0 : Int), .int .i64 (n0 : Int)]) 2).run Tryd.prog w = .ok (.int .i64 (n0 : Int)) w := run_n f s0 (n0 : Int)
      have u1 : decide ((lo : Int) < 1) = false := decide_eq_false (by omega)
      have wl : IntKind.i64.wrap ((lo : Int) + (wd : Int)) = (lo : Int) + (wd : Int) := IntWalk.i64_in _ ⟨by omega, by omega⟩
      have u2 : decide ((16 : Int) < (lo : Int) + (wd : Int)) = false := decide_eq_false (by omega)
      have u3 : decide ((E2 : Int) < (E1 : Int)) = false := decide_eq_false (by omega)
      have u3' : decide (E2 < E1) = false := decide_eq_false (by omega)
      have u4 : decide ((n0 : Int) < 1) = false := decide_eq_false (by omega)
      obtain ⟨g0, g2, g3, r0, r1, r2⟩ := HCC.out _ _ _ ST.out
      have HX := Lib.hid (And.intro hE2b (And.intro hff (And.intro hlo (And.intro hwd hoo))))
      have hfb : f ≤ 50000 := by omega
      have hE2c : E2 ≤ 70000 := by omega
      clear hr1 he1 he2 hcc hE1 hE2 hE1' hE2' hPf hs0 hn0 hsz hrun hmay hend hfit hff hlo hwd hoo hopp hE2b ef f3
      go_wp2_with fail
      go_region_held3 (fun w' => w'.cell? ⟨oo, 0, none⟩ = some (.pointer (some ⟨opp, 0, none⟩)) ∧ w'.cell? ⟨oo, 2, none⟩ = some (.int .i64 (lo : Int)) ∧ w'.cell? ⟨oo, 3, none⟩ = some (.int .i64 (wd : Int)) ∧ w'.cell? ⟨rb, 0, none⟩ = some (.int .u64 (f : Int)) ∧ w'.cell? ⟨rb, 1, none⟩ = some (.int .u64 1024) ∧ w'.cell? ⟨rb, 2, none⟩ = some (.int .i64 (wd : Int))) (first | go_keep | exact ⟨g0, g2, g3, r0, r1, r2⟩)
        (first
          | (go_at_call 31; (first | (with_reducible refine (HR.out _ _ _ ST.out.drew).mono ?_) | (with_reducible refine (HR.out _ _ _ ST.out).mono ?_)); rintro e w7 ⟨rfl, hh⟩; have ST := Lib.hid hh; obtain ⟨g0, g2, g3, r0, r1, r2⟩ := HCC.out _ _ _ hh; clear hh)
          | (go_at_call 32; (first | (with_reducible refine (HE1.out _ _ _ ST.out.drew).mono ?_) | (with_reducible refine (HE1.out _ _ _ ST.out).mono ?_) | (with_reducible refine (HE2.out _ _ _ ST.out.drew).mono ?_) | (with_reducible refine (HE2.out _ _ _ ST.out).mono ?_)); rintro e w7 ⟨rfl, hh⟩; have ST := Lib.hid hh; obtain ⟨g0, g2, g3, r0, r1, r2⟩ := HCC.out _ _ _ hh; clear hh))
      -- the run is put into the row
      have s7 := ST.out.bl.size
      have HSX := Lib.hid ST.out
      have hnrb : ¬ In (.slice a' t cap') rb := fun h => by have h1 := HVL.out rb h; have h2 := RB.out; omega
      have hsl : S + wd ≤ 15 := by
        obtain ⟨h1, h2, h3, h4, h5⟩ := HX.out
        have h6 := sumW_take (o := o) HOE.out
        have h7 := sumW_take_le l (t + 1)
        have h8 := H5.out.sg.good.sum
        rw [HL.out] at h8
        have h9 := HS.out
        omega
      have wS : IntKind.i64.wrap ((S : Int) + (wd : Int)) = (S : Int) + (wd : Int) := IntWalk.i64_in _ ⟨by omega, by omega⟩
      go_wp2_with (at_builtin; refine wpList_append_vec (E := Elem.runs) rfl (.tmp 113) (.tmp 115) 66 rfl 68 i0 (.agg #[.int .u64 0, .int .u64 0, .int .i64 0]) 24 Tryd.underlying66 hi hz0 hz1 hz2 rfl (.slice a' t cap') (.slice (some ⟨w7.heap.size, 0, none⟩) 1 1) R [(f, 1024, (wd : Int))] rfl rfl (HSX.out.V.alloc _) (runs_oneAt _ _ (f, 1024, (wd : Int)) _ rfl) ?_ ?_ ?_; (rw [HRL.out]; simp only [maxLen, List.length_cons, List.length_nil]; omega); (rw [HRL.out]; simp only [List.length_cons, List.length_nil]; omega); intro v2 w9 hv2 hu2 hin2; have BZ := Lib.hid (vec_below (HSX.out.bl.alloc s7 _) (Nat.le_trans s7 (by simp)) N.out hu2); have N2 := Lib.hid hin2; have ST := Lib.hid (sx_app H5.out HSX.out BZ.out hv2 hu2 hnrb); obtain ⟨g0, g2, g3, r0, r1, r2⟩ := HCC.out _ _ _ ST.out; clear hv2 hu2 hin2)
      obtain ⟨x1, x2, x3, x4, x5⟩ := HX.out
      obtain ⟨W, hW⟩ : ∃ W, wd * 1024 = W := ⟨_, rfl⟩
      obtain ⟨q, hq⟩ : ∃ q, m % W = q := ⟨_, rfl⟩
      have hqW : q < W := by rw [← hq]; exact Nat.mod_lt _ (by omega)
      obtain ⟨A, hA⟩ : ∃ A, f + q = A := ⟨_, rfl⟩
      have m1 : Int.tmod (m : Int) (W : Int) = (q : Int) := by rw [← hq]; exact (Int.ofNat_tmod _ _).symm
      have m2 : (m : Int) % (W : Int) = (q : Int) := by rw [← hq]; exact (Int.natCast_emod _ _).symm
      have tW : ((W : Int) == 0) = false := by rw [beq_eq_false_iff_ne]; omega
      have tW' : ¬ (W : Int) = 0 := by omega
      have tWn : ¬ W = 0 := by omega
      have ew : (E2 : Int) - (f : Int) = (W : Int) := by omega
      have wW : IntKind.u64.wrap (W : Int) = (W : Int) := IntWalk.u64_in _ ⟨by omega, by omega⟩
      have eA : (f : Int) + (q : Int) = (A : Int) := by omega
      have wA : IntKind.u64.wrap (A : Int) = (A : Int) := IntWalk.u64_in _ ⟨by omega, by omega⟩
      have hqo : q < o.wd * 1024 := by rw [x4]; omega
      have sf := fun (v : Value) (R : List Rn) (w' : World) (k : Sx w w5 C sp p g I4 c L0 X rb f wd v R w') => sx_find k HPL.out MX.out hqo
      rw [show 32768 + o.lo * 1024 + q = A by rw [x3]; omega, x5] at sf
      have SF := Lib.hid sf
      have NQ := same_owned
      have wm : IntKind.u64.wrap (m : Int) = (m : Int) := IntWalk.u64_in _ ⟨by omega, by omega⟩
      clear sf x1 x2 x3 x4 x5 hW hq hA hqW hqo
      go_region_held3 (fun w' => w'.cell? ⟨oo, 0, none⟩ = some (.pointer (some ⟨opp, 0, none⟩)) ∧ w'.cell? ⟨oo, 2, none⟩ = some (.int .i64 (lo : Int)) ∧ w'.cell? ⟨oo, 3, none⟩ = some (.int .i64 (wd : Int)) ∧ w'.cell? ⟨rb, 0, none⟩ = some (.int .u64 (f : Int)) ∧ w'.cell? ⟨rb, 1, none⟩ = some (.int .u64 1024) ∧ w'.cell? ⟨rb, 2, none⟩ = some (.int .i64 (wd : Int))) (first | go_keep | exact ⟨g0, g2, g3, r0, r1, r2⟩)
        (first
          | (go_at_call 32; (first | (with_reducible refine (HE2.out _ _ _ ST.out.drew).mono ?_) | (with_reducible refine (HE2.out _ _ _ ST.out).mono ?_)); rintro e w10 ⟨rfl, hh⟩; have ST := Lib.hid hh; obtain ⟨g0, g2, g3, r0, r1, r2⟩ := HCC.out _ _ _ hh; clear hh))
      go_wp2_with fail
      refine (SF.out _ _ _ ST.out).mono ?_; rintro e w11 ⟨rfl, hh⟩
      have ST := Lib.hid hh
      clear hh g0 g2 g3 r0 r1 r2
      go_wp2
      go_roundw
      case rel =>
        obtain ⟨x1, x2, x3, x4, x5⟩ := HX.out
        have hst := sumW_take (o := o) HOE.out
        have hrow : (l.take (t + 1)).map runO = R ++ [(f, 1024, (wd : Int))] := by
          rw [List.take_add_one, HOE.out, List.map_append, HR0.out]
          show R ++ [runO o] = _
          unfold runO
          rw [x3, x4, x2]
        refine ⟨t + 1, by rw [← HK.out]; omega, by rw [show ((t + 1 : Nat) : Int) = (t : Int) + 1 by omega], ?_, by rw [hrow]; exact ST.out.V, fun b hb => ?_, ST.out.bl⟩
        · rw [hst, HS.out, x4, Int.natCast_add]
        · rcases N2.out b hb with z | z
          · exact N.out b z
          · simp at z; omega
      case measure => simp [intOf]; omega
    · obtain rfl : t = k := by omega
      have t1 : decide ((t : Int) < (t : Int)) = false := decide_eq_false (by omega)
      have hfull : l.take t = l := by rw [HK.out, List.take_length]
      have hR2 : R = l.map runO := by rw [← HR0.out, hfull]
      have hmeet : meetN R = false := by
        rw [hR2, ← HL.out]
        exact rows_rise OS.out.sg.good.rise OS.out.sg.good.fit
      obtain ⟨lf, hlf⟩ : ∃ lf, MarkMath.left X.K = lf := ⟨_, rfl⟩
      have hsum : lf + S = 15 := by
        have h1 := OS.out.sg.good.sum
        rw [HL.out, hlf] at h1
        have h2 := HS.out
        rw [hfull] at h2
        omega
      have RBD : ∀ x ∈ R, RnB x := by
        intro x hx
        rw [hR2] at hx
        obtain ⟨y, hy, rfl⟩ := List.mem_map.1 hx
        have f := OS.out.sg.good.fit y (by rw [HL.out]; exact hy)
        exact ⟨by show 32768 + y.lo * 1024 ≤ _; omega, by show (1024 : Nat) ≤ _; decide, by show -9223372036854775808 ≤ (y.wd : Int); omega, by show (y.wd : Int) ≤ _; omega⟩
      have hmt := fun (w' : World) (hb : Below wr.heap.size wr w') => G.meet w' (below_then (below_then H5.out.below H5.out.below.size B.out) (Nat.le_trans H5.out.below.size B.out.size) hb) _ t cap' R (V.out.seq.upd (updFalse_of hb) (fun _ _ => id)) hvc1 hvc2 (by omega) RBD
      rw [hmeet] at hmt
      have hlft := fun (w' : World) (h : OSg C sp p g I4 c L0 X w') => os_left h
      rw [hlf] at hlft
      have MT := Lib.hid hmt; have LF := Lib.hid hlft
      have t2 : ((lf : Int) == 15 - (S : Int)) = true := by rw [beq_iff_eq]; omega
      have w15 : IntKind.i64.wrap (15 - (S : Int)) = 15 - (S : Int) := IntWalk.i64_in _ ⟨by omega, by omega⟩
      clear hfull hR2 hmeet hlf RBD hmt hlft hv hin hb
      go_wp2_with fail
      refine (os_find0 OS.out HPL.out).mono ?_; rintro e w6 ⟨rfl, hh, hb6⟩
      have O6 := Lib.hid hh; have B6 := Lib.hid hb6
      clear hh hb6
      go_wp2_with fail
      refine (os_find3 O6.out HPL.out (a := 49152) (by decide) (.inr (by decide))).mono ?_; rintro e w7 ⟨rfl, hh, hb7⟩
      have O7 := Lib.hid hh; have B7 := Lib.hid (below_then B6.out B6.out.size hb7)
      clear hh hb7
      go_wp2_with fail
      refine (os_find3 O7.out HPL.out (a := 32767) (by decide) (.inl (by decide))).mono ?_; rintro e w8 ⟨rfl, hh, hb8⟩
      have O8 := Lib.hid hh; have B8 := Lib.hid (below_then B7.out B7.out.size hb8)
      clear hh hb8
      go_wp2_with fail
      refine (MT.out _ B8.out).mono ?_; rintro e w9 ⟨rfl, hb9⟩
      have O9 := Lib.hid (O8.out.grew hb9)
      clear hb9
      go_wp2_with fail
      refine (LF.out _ O9.out).mono ?_; rintro e w10 ⟨rfl, hh, _⟩
      have O10 := Lib.hid hh
      clear hh
      go_wp2
      go_ret
      exact ⟨rfl, O10.out.below⟩
end Go.Proofs.YtomepdgddpajoaaDoor.segApart
