/- RefT10: texts of layers below, joined (RefS10 RefS10b RefS10c RefS10d Pair10). -/
import Derived.Test.YtomepdgddpajoaaDoorDocs10
import Derived.Test.YtomepdgddpajoaaDoorSegCl
import Derived.Test.YtomepdgddpajoaaDoorSegMath2
import Derived.Deep.RegionLaw
import Derived.Deep.RegionHeld3
import Derived.BigRegion
import Derived.Test.YtomepdgddpajoaaDoorSegWr
import Derived.Test.YtomepdgddpajoaaDoorAliveS
/- The document's own segment (allotmentref10): how it lies in memory; New, Find: contracts. -/
namespace Go.Proofs.YtomepdgddpajoaaDoor
open Go.RowKit ListMath PageMath GeoMath SegMath ClassMath
set_option linter.unusedVariables false
set_option maxRecDepth 100000

def opD (o : OwR) : Option Addr := some ⟨o.op, 0, none⟩
/-- The blocks of the document's segment that are known by their numbers. -/
def DN (q mk gm : Nat) (Y : SG) (b : Nat) : Prop := b = q ∨ b = mk ∨ b = gm ∨ ∃ o ∈ Y.L, b = o.op ∨ b = o.pp
/-- At block q the document's segment; none of its blocks is one of Z. -/
structure RD (Z : Nat → Prop) (w : World) (q mk gm : Nat) (Y : SG) : Prop where
  B : ∃ a cap, Blk w q 62 #[.int .i64 (Y.pl : Int), .pointer (some ⟨mk, 0, none⟩), .slice a Y.L.length cap] ∧ Seq Elem.ptrs w (.slice a Y.L.length cap) (Y.L.map opD) ∧ Y.L.length ≤ cap ∧ cap ≤ 9223372036854775807 ∧ ∀ b, In (.slice a Y.L.length cap) b → ¬ Z b ∧ ¬ DN q mk gm Y b ∧ b < w.heap.size
  M : Mk.IsRef w mk gm Y.K
  own : ∀ o ∈ Y.L, Blk w o.op 54 (ownA o)
  pg : ∀ o ∈ Y.L, RP (fun b => (Z b ∨ DN q mk gm Y b) ∧ b ≠ o.pp) w o.pp o.P []
  pps : (Y.L.map fun o => o.pp).Nodup
  sep : ∀ b, DN q mk gm Y b → ¬ Z b
section
variable {Z Z' T : Nat → Prop} {w w' : World} {q mk gm : Nat} {Y : SG}
theorem RD.lt (h : RD Z w q mk gm Y) {b : Nat} (hb : DN q mk gm Y b) : b < w.heap.size := by
  obtain ⟨a, cap, k, _⟩ := h.B
  rcases hb with rfl | rfl | rfl | ⟨o, ho, rfl | rfl⟩
  · exact k.lt
  · exact h.M.head.lt
  · exact h.M.row.lt
  · exact (h.own o ho).lt
  · exact (h.pg o ho).lt
theorem RD.upd (h : RD Z w q mk gm Y) (u : Upd T w w') (hT : ∀ b, T b → Z b) : RD Z w' q mk gm Y := by
  have hn : ∀ b, DN q mk gm Y b → ¬ T b := fun b hb x => h.sep b hb (hT b x)
  obtain ⟨a, cap, k, h1, h2, h3, h4⟩ := h.B
  exact ⟨⟨a, cap, k.upd u (hn q (.inl rfl)), h1.upd u fun b hb x => (h4 b hb).1 (hT b x), h2, h3, fun b hb => ⟨(h4 b hb).1, (h4 b hb).2.1, Nat.lt_of_lt_of_le (h4 b hb).2.2 u.size⟩⟩, h.M.upd u (hn mk (.inr (.inl rfl))) (hn gm (.inr (.inr (.inl rfl)))), fun o ho => (h.own o ho).upd u (hn _ (.inr (.inr (.inr ⟨o, ho, .inl rfl⟩)))), fun o ho => (h.pg o ho).upd u fun b hb => ⟨.inl (hT b hb), fun e => hn b (.inr (.inr (.inr ⟨o, ho, .inr e⟩))) hb⟩, h.pps, h.sep⟩
theorem RD.grew (h : RD Z w q mk gm Y) (hb : Below w.heap.size w w') : RD Z w' q mk gm Y := h.upd (updFalse_of hb) fun _ x => x.elim
theorem RD.re (h : RD Z w q mk gm Y) (hZ : ∀ b, Z' b → Z b ∨ w.heap.size ≤ b) : RD Z' w q mk gm Y := by
  obtain ⟨a, cap, k, h1, h2, h3, h4⟩ := h.B
  refine ⟨⟨a, cap, k, h1, h2, h3, fun b hb => ⟨fun x => ?_, (h4 b hb).2⟩⟩, h.M, h.own, fun o ho => (h.pg o ho).re fun b hb => ?_, h.pps, fun b hb x => ?_⟩
  · rcases hZ b x with y | y
    · exact (h4 b hb).1 y
    · have := (h4 b hb).2.2; omega
  · obtain ⟨hb, hne⟩ := hb
    rcases hb with x | x
    · rcases hZ b x with y | y
      · exact .inl ⟨.inl y, hne⟩
      · exact .inr y
    · exact .inl ⟨.inr x, hne⟩
  · rcases hZ b x with y | y
    · exact h.sep b hb y
    · have := h.lt hb; omega
/-- The pointers of its row. -/
theorem RD.row (h : RD Z w q mk gm Y) : ∃ a cap, w.cell? ⟨q, 2, none⟩ = some (.slice a Y.L.length cap) ∧ (∀ w', Below w.heap.size w w' → Seq Elem.ptrs w' (.slice a Y.L.length cap) (Y.L.map opD)) ∧ Y.L.length ≤ cap ∧ cap ≤ 9223372036854775807 := by
  obtain ⟨a, cap, k, h1, h2, h3, _⟩ := h.B
  exact ⟨a, cap, k.cell 2, fun w' hb => h1.upd (updFalse_of hb) fun _ _ => id, h2, h3⟩
theorem RD.c0 (h : RD Z w q mk gm Y) : w.cell? ⟨q, 0, none⟩ = some (.int .i64 (Y.pl : Int)) := by obtain ⟨a, cap, k, _⟩ := h.B; exact k.cell 0
theorem RD.c1 (h : RD Z w q mk gm Y) : w.cell? ⟨q, 1, none⟩ = some (.pointer (some ⟨mk, 0, none⟩)) := by obtain ⟨a, cap, k, _⟩ := h.B; exact k.cell 1
theorem RD.o0 (h : RD Z w q mk gm Y) {o : OwR} (ho : o ∈ Y.L) : w.cell? ⟨o.op, 0, none⟩ = some (.pointer (some ⟨o.pp, 0, none⟩)) := (h.own o ho).cell 0
theorem RD.o1 (h : RD Z w q mk gm Y) {o : OwR} (ho : o ∈ Y.L) : w.cell? ⟨o.op, 1, none⟩ = some (.int .i64 o.cls) := (h.own o ho).cell 1
theorem RD.o2 (h : RD Z w q mk gm Y) {o : OwR} (ho : o ∈ Y.L) : w.cell? ⟨o.op, 2, none⟩ = some (.int .i64 (o.lo : Int)) := (h.own o ho).cell 2
theorem RD.o3 (h : RD Z w q mk gm Y) {o : OwR} (ho : o ∈ Y.L) : w.cell? ⟨o.op, 3, none⟩ = some (.int .i64 (o.wd : Int)) := (h.own o ho).cell 3
/-- A page's numbers. -/
theorem RD.p (h : RD Z w q mk gm Y) {o : OwR} (ho : o ∈ Y.L) : ∃ vF vG vP, Blk w o.pp 110 (pgC o.P vF vG vP) := by
  obtain ⟨aF, cF, aG, cG, aP, cP, k, _⟩ := (h.pg o ho).out
  exact ⟨_, _, _, k⟩
theorem ptr_at {w : World} {a : Option Addr} {n cap t : Nat} {l : List OwR} {o : OwR} (h : Seq Elem.ptrs w (.slice a n cap) (l.map opD)) (ho : l[t]? = some o) : ∃ b off, a = some ⟨b, off, none⟩ ∧ w.cell? ⟨b, off + t, none⟩ = some (.pointer (some ⟨o.op, 0, none⟩)) := by
  obtain ⟨b, off, ea, hcell⟩ := h.elem (show (l.map opD)[t]? = some (some ⟨o.op, 0, none⟩) by rw [List.getElem?_map, ho]; rfl)
  refine ⟨b, off, ea, ?_⟩
  have h0 := hcell 0 (.pointer (some ⟨o.op, 0, none⟩)) rfl
  simpa [Elem.ptrs] using h0
end
/-! ### New -/
theorem rd_new (w : World) (Z : Nat → Prop) (hZ : ∀ b, Z b → b < w.heap.size) (pl : Nat) :
    Calls Tryd.prog 14 #[.int .i64 (pl : Int)] w fun e w' => ∃ q mk gm, e = .returned (.pointer (some ⟨q, 0, none⟩)) ∧ RD Z w' q mk gm (newSG pl) ∧ (∀ b, DN q mk gm (newSG pl) b → w.heap.size ≤ b) ∧ Below w.heap.size w w' := by
  have HN := Lib.hid (Mk.ref_new_ok 16 (by decide) (by decide) w)
  have HZ := Lib.hid hZ
  clear hZ
  go_enter Tryd.func14, Tryd.ntmps14
  go_wp2_with fail
  refine HN.out.mono ?_; rintro e w1 ⟨mk, gm, rfl, hk, hk1, hk2, hu⟩
  have hmk := Mk.ref_mark hk 0 1 ⟨by decide, by decide⟩ ⟨by decide, by decide⟩
  have e1 : Mk.turnL true (MarkMath.rep 16 false) 0 1 = newK ∧ Mk.turnE true 6 (MarkMath.rep 16 false) 0 1 = 0 := by decide
  rw [e1.1, e1.2] at hmk
  have HM := Lib.hid hmk
  have U1 := Lib.hid hu
  have K1 := Lib.hid (And.intro hk1 hk2)
  clear hmk hk hu hk1 hk2 e1
  go_wp2_with fail
  refine HM.out.mono ?_; rintro e w2 ⟨rfl, hk, hu⟩
  have M2 := Lib.hid hk
  have b2 := (U1.out.step hu (fun i hi => .inr (by rw [hi]; exact K1.out.2))).below (fun _ h => h.elim) (Nat.le_refl _)
  have B2 := Lib.hid b2
  clear hk hu b2
  go_wp2
  go_ret
  have s2 := B2.out.size
  have m1 := M2.out.head.lt
  have m2 := M2.out.row.lt
  have n1 : ∀ b, DN w2.heap.size mk gm (newSG pl) b → w.heap.size ≤ b := fun b hb => by
    rcases hb with rfl | rfl | rfl | ⟨o, ho, _⟩
    · exact s2
    · exact K1.out.1
    · exact K1.out.2
    · cases ho
  refine ⟨w2.heap.size, mk, gm, rfl, ⟨⟨none, 0, Blk.new w2 _ _, Seq.nil _, Nat.le_refl _, by decide, (fun b hb => by cases hb)⟩, M2.out.alloc _, (fun o ho => by cases ho), (fun o ho => by cases ho), List.nodup_nil, fun b hb x => ?_⟩, n1, B2.out.alloc s2 _⟩
  have h1 := n1 b hb
  have h2 := HZ.out b x
  omega
/-! ### Find -/
def FindR (w : World) (l : List OwR) (y : Nat) (i : Value) (wr : World) : Prop := ∃ t : Nat, t ≤ l.length ∧ i = .int .i64 (t : Int) ∧ (∀ x ∈ l.take t, ¬ (x.lo ≤ y ∧ y < x.lo + x.wd)) ∧ Below w.heap.size w wr
theorem inS_take {X : SG} {y t : Nat} {o : OwR} (h : ∀ x ∈ X.L.take t, ¬ (x.lo ≤ y ∧ y < x.lo + x.wd)) (ho : X.L[t]? = some o) (h1 : o.lo ≤ y) (h2 : y < o.lo + o.wd) : inS X y = some o := by
  unfold inS
  obtain ⟨hl, e⟩ := List.getElem?_eq_some_iff.1 ho
  refine List.find?_eq_some_iff_append.2 ⟨by simp [h1, h2], X.L.take t, X.L.drop (t + 1), ?_, fun x hx => ?_⟩
  · rw [← e, ← List.drop_eq_getElem_cons hl, List.take_append_drop]
  · have := h x hx
    simp
    omega
theorem inS_all {X : SG} {y : Nat} (h : ∀ x ∈ X.L, ¬ (x.lo ≤ y ∧ y < x.lo + x.wd)) : inS X y = none := List.find?_eq_none.2 fun x hx => by
  have := h x hx
  simp
  omega
theorem take_next {l : List OwR} {t : Nat} {o : OwR} {φ : OwR → Prop} (h : ∀ x ∈ l.take t, φ x) (ho : l[t]? = some o) (hφ : φ o) : ∀ x ∈ l.take (t + 1), φ x := fun x hx => by
  rw [List.take_add_one, ho] at hx
  rcases List.mem_append.1 hx with hx | hx
  · exact h x hx
  · rw [List.mem_singleton.1 hx]; exact hφ
set_option maxHeartbeats 2000000 in
theorem rd_find {Z : Nat → Prop} {w : World} {q mk gm : Nat} {Y : SG} (h : RD Z w q mk gm Y) (hpl : Y.pl ≤ 3) (hfit : ∀ o ∈ Y.L, o.lo + o.wd ≤ 16) {a : Nat} (ha : U64B a) :
    Calls Tryd.prog 24 #[.pointer (some ⟨q, 0, none⟩), .int .u64 (a : Int)] w fun e w' => e = .returned (.tuple #[ptrO (findO Y a), .int .i64 (findE Y a)]) ∧ Below w.heap.size w w' := by
  have c0 := h.c0
  obtain ⟨ar, cap, c2, hrow, hlc, hcap⟩ := h.row
  have hw1 : IntKind.u64.wrap (Y.pl : Int) = (Y.pl : Int) := IntWalk.u64_in _ ⟨by omega, by omega⟩
  obtain ⟨f, hf⟩ : ∃ f, Y.pl * 16384 = f := ⟨_, rfl⟩
  have ef : (Y.pl : Int) * 16384 = (f : Int) := by omega
  have hw2 : IntKind.u64.wrap (f : Int) = (f : Int) := IntWalk.u64_in _ ⟨by omega, by omega⟩
  have hw3 : IntKind.u64.wrap ((f : Int) + 16384) = (f : Int) + 16384 := IntWalk.u64_in _ ⟨by omega, by omega⟩
  obtain ⟨P, hP⟩ : ∃ P, Y.pl = P := ⟨_, rfl⟩
  rw [hP] at c0 hw1 ef
  have H0 := Lib.hid h; have HF := Lib.hid hfit; have ROW := Lib.hid hrow
  by_cases h1 : a < f
  · have e1 : findO Y a = none := by unfold findO; rw [if_pos (by omega)]
    have e2 : findE Y a = 3 := by unfold findE; rw [if_pos (by omega)]
    rw [e1, e2]
    have t1 : decide ((a : Int) < (f : Int)) = true := decide_eq_true (by omega)
    have t1' : decide (a < f) = true := decide_eq_true h1
    clear h hfit hrow e1 e2 h1 hf hP hpl
    go_enter Tryd.func24, Tryd.ntmps24
    go_wp2
    go_ret2
    exact ⟨rfl, Below.refl _ _⟩
  · have t1 : decide ((a : Int) < (f : Int)) = false := decide_eq_false (by omega)
    have t1' : decide (a < f) = false := decide_eq_false h1
    by_cases h2 : f + 16384 ≤ a
    · have e1 : findO Y a = none := by unfold findO; rw [if_pos (by omega)]
      have e2 : findE Y a = 3 := by unfold findE; rw [if_pos (by omega)]
      rw [e1, e2]
      have t2 : decide ((f : Int) + 16384 ≤ (a : Int)) = true := decide_eq_true (by omega)
      clear h hfit hrow e1 e2 h1 h2 hf hP hpl
      go_enter Tryd.func24, Tryd.ntmps24
      go_wp2
      go_ret2
      exact ⟨rfl, Below.refl _ _⟩
    · have t2 : decide ((f : Int) + 16384 ≤ (a : Int)) = false := decide_eq_false (by omega)
      obtain ⟨d, hd⟩ : ∃ d, a - f = d := ⟨_, rfl⟩
      obtain ⟨y, hy⟩ : ∃ y, d / 1024 = y := ⟨_, rfl⟩
      have e0 : (a : Int) - (f : Int) = (d : Int) := by omega
      have hw4 : IntKind.u64.wrap (d : Int) = (d : Int) := IntWalk.u64_in _ ⟨by omega, by omega⟩
      have ed1 : Int.tdiv (d : Int) 1024 = (y : Int) := by rw [← hy]; exact (Int.ofNat_tdiv _ _).symm
      have ed2 : (d : Int) / 1024 = (y : Int) := by omega
      have hy16 : y < 16 := by omega
      have hw5 : IntKind.i64.wrap (y : Int) = (y : Int) := IntWalk.i64_in _ ⟨by omega, by omega⟩
      have e1 : findO Y a = inS Y y := by unfold findO; rw [if_neg (by omega), hf, hd, hy]
      have e2 : findE Y a = if (inS Y y).isSome then 0 else 5 := by unfold findE; rw [if_neg (by omega), hf, hd, hy]
      rw [e1, e2]
      obtain ⟨V, hV⟩ : ∃ V, (Value.tuple #[ptrO (inS Y y), .int .i64 (if (inS Y y).isSome then 0 else 5)]) = V := ⟨_, rfl⟩
      rw [hV]
      have HV := Lib.hid hV
      clear hV
      obtain ⟨n, hn⟩ : ∃ n, Y.L.length = n := ⟨_, rfl⟩
      rw [hn] at c2 hlc
      have HN := Lib.hid hn
      have I0 := Lib.hid (show FindR w Y.L y (.int .i64 0) w from ⟨0, Nat.zero_le _, rfl, (by intro x hx; cases hx), Below.refl _ _⟩)
      clear h hfit hrow e1 e2 h1 h2 hf hP hpl hd hy hn ha
      go_enter Tryd.func24, Tryd.ntmps24
      go_wp2
      clear c0 c2 hw1 hw2 hw3 hw4 hw5 ef e0 ed1 ed2 t1 t1' t2
      go_loopw [35] (fun i wr => FindR w Y.L y i wr) (fun i _ => n - (intOf i).toNat)
      case atStart => exact I0.out
      case round =>
        clear I0
        obtain ⟨t, ht, rfl, hno, hb⟩ := hrel
        rw [HN.out] at ht
        have NO := Lib.hid hno; have B := Lib.hid hb
        by_cases htn : t < n
        · have htl : t < Y.L.length := by rw [HN.out]; exact htn
          obtain ⟨o, hoe⟩ : ∃ o, Y.L[t]? = some o := ⟨Y.L[t]'htl, List.getElem?_eq_getElem _⟩
          have hoY : o ∈ Y.L := List.mem_of_getElem? hoe
          obtain ⟨b, off, ea, d0⟩ := ptr_at (ROW.out wr hb) hoe
          subst ea
          have rg := H0.out.grew hb
          have o2 := rg.o2 hoY
          have o3 := rg.o3 hoY
          have hle := HF.out o hoY
          obtain ⟨lo, hlo⟩ : ∃ x, o.lo = x := ⟨_, rfl⟩
          obtain ⟨en, hen⟩ : ∃ x, o.lo + o.wd = x := ⟨_, rfl⟩
          have een : (lo : Int) + (o.wd : Int) = (en : Int) := by omega
          have hwe : IntKind.i64.wrap (en : Int) = (en : Int) := IntWalk.i64_in _ ⟨by omega, by omega⟩
          rw [hlo] at o2
          have t1 : decide ((t : Int) < (n : Int)) = true := decide_eq_true (by omega)
          have t1' : decide (t < n) = true := decide_eq_true htn
          have p0 : (0 : Int) ≤ (t : Int) := by omega
          have p1 : (t : Int) < (n : Int) := by omega
          have ej : (((t + 1 : Nat)) : Int) = (t : Int) + 1 := by omega
          obtain ⟨oo, hoo⟩ : ∃ x, o.op = x := ⟨_, rfl⟩
          obtain ⟨wd, hwd⟩ : ∃ x, o.wd = x := ⟨_, rfl⟩
          rw [hoo] at d0 o2 o3
          rw [hwd] at o3 een
          by_cases g1 : lo ≤ y
          · have t2 : decide ((lo : Int) ≤ (y : Int)) = true := decide_eq_true (by omega)
            have t2' : decide (lo ≤ y) = true := decide_eq_true g1
            by_cases g2 : y < en
            · have t3 : decide ((y : Int) < (en : Int)) = true := decide_eq_true (by omega)
              have t3' : decide (y < en) = true := decide_eq_true g2
              have hin : inS Y y = some o := inS_take hno hoe (by omega) (by omega)
              have HIN := Lib.hid hin; have HOO := Lib.hid hoo
              clear hin hno hb rg hoe hoY hle hlo hen g1 g2 hwd hoo
              go_wp2
              go_quiet (fail)
              clear d0 o2 o3
              go_wp2
              go_ret2
              have hv := HV.out
              rw [HIN.out] at hv
              rw [← hv]
              show _ = Ending.returned (.tuple #[.pointer (some ⟨o.op, 0, none⟩), .int .i64 0]) ∧ _
              rw [HOO.out]
              exact ⟨rfl, below_drewN B.out nq⟩
            · have t3 : decide ((y : Int) < (en : Int)) = false := decide_eq_false (by omega)
              have t3' : decide (y < en) = false := decide_eq_false g2
              have hnx := Lib.hid (take_next (φ := fun x => ¬ (x.lo ≤ y ∧ y < x.lo + x.wd)) hno hoe (by omega))
              clear hno hb rg hoe hoY hle hlo hen g1 g2 hwd hoo
              go_wp2
              go_quiet (fail)
              clear d0 o2 o3
              go_wp2
              go_roundw
              case rel => exact ⟨t + 1, by rw [HN.out]; omega, by rw [ej], hnx.out, below_drewN B.out nq⟩
              case measure => simp [intOf]; omega
          · have t2 : decide ((lo : Int) ≤ (y : Int)) = false := decide_eq_false (by omega)
            have t2' : decide (lo ≤ y) = false := decide_eq_false g1
            have hnx := Lib.hid (take_next (φ := fun x => ¬ (x.lo ≤ y ∧ y < x.lo + x.wd)) hno hoe (by omega))
            clear hno hb rg hoe hoY hle hlo hen g1 hwd hoo
            go_wp2
            go_quiet (fail)
            clear d0 o2 o3
            go_wp2
            go_roundw
            case rel => exact ⟨t + 1, by rw [HN.out]; omega, by rw [ej], hnx.out, below_drewN B.out nq⟩
            case measure => simp [intOf]; omega
        · obtain rfl : t = n := by omega
          have t1 : decide ((t : Int) < (t : Int)) = false := decide_eq_false (by omega)
          have hall : inS Y y = none := inS_all (by rw [← HN.out, List.take_length] at hno; exact hno)
          have HALL := Lib.hid hall
          clear hall hno hb
          go_wp2
          go_ret2
          have hv := HV.out
          rw [HALL.out] at hv
          rw [← hv]
          exact ⟨rfl, B.out⟩
end Go.Proofs.YtomepdgddpajoaaDoor
/- The document's own segment: what a call makes of it; Drop: contract. -/
namespace Go.Proofs.YtomepdgddpajoaaDoor
open Go.RowKit ListMath PageMath GeoMath SegMath ClassMath
set_option linter.unusedVariables false
set_option maxRecDepth 100000

/-- Another row, other marks, and maybe a page more or less. -/
theorem RD.turn {Z : Nat → Prop} {w w' : World} {q mk gm : Nat} {Y Y' : SG} (h : RD Z w q mk gm Y) (hZ : ∀ b, Z b → b < w.heap.size) (u : Upd (fun b => b = q ∨ b = gm) w w') (n1 : Nat) (hn : w.heap.size ≤ n1)
    (hD : ∀ b, DN q mk gm Y' b → b < n1)
    (hB : ∃ a cap, Blk w' q 62 #[.int .i64 (Y'.pl : Int), .pointer (some ⟨mk, 0, none⟩), .slice a Y'.L.length cap] ∧ Seq Elem.ptrs w' (.slice a Y'.L.length cap) (Y'.L.map opD) ∧ Y'.L.length ≤ cap ∧ cap ≤ 9223372036854775807 ∧ ∀ b, In (.slice a Y'.L.length cap) b → n1 ≤ b ∧ b < w'.heap.size)
    (hM : Mk.IsRef w' mk gm Y'.K)
    (hL : ∀ o ∈ Y'.L, o ∈ Y.L ∨ (w.heap.size ≤ o.op ∧ w.heap.size ≤ o.pp ∧ Blk w' o.op 54 (ownA o) ∧ ∃ f s n, o.P = newPG f s n ∧ Blk w' o.pp 110 (pgC o.P (.slice none 0 0) (.slice none 0 0) (.slice none 0 0))))
    (hN : (Y'.L.map fun o => o.pp).Nodup) : RD Z w' q mk gm Y' := by
  obtain ⟨a0, cap0, k0, _⟩ := h.B
  obtain ⟨a, cap, k, h1, h2, h3, h4⟩ := hB
  have hold : ∀ o ∈ Y.L, o.op ≠ q ∧ o.op ≠ gm ∧ o.pp ≠ q ∧ o.pp ≠ gm := fun o ho => by
    obtain ⟨vF, vG, vP, kp⟩ := h.p ho
    exact ⟨(h.own o ho).ne k0 (by decide), (h.own o ho).ne h.M.row (by decide), kp.ne k0 (by decide), kp.ne h.M.row (by decide)⟩
  refine ⟨⟨a, cap, k, h1, h2, h3, fun b hb => ⟨fun x => ?_, fun x => ?_, (h4 b hb).2⟩⟩, hM, fun o ho => ?_, fun o ho => ?_, hN, fun b hb x => ?_⟩
  · have := hZ b x; have := (h4 b hb).1; omega
  · have := hD b x; have := (h4 b hb).1; omega
  · rcases hL o ho with x | x
    · exact (h.own o x).upd u fun e => by rcases e with e | e; exact (hold o x).1 e; exact (hold o x).2.1 e
    · exact x.2.2.1
  · rcases hL o ho with x | x
    · refine ((h.pg o x).re (A' := fun b => (Z b ∨ DN q mk gm Y' b) ∧ b ≠ o.pp) fun b hb => ?_).upd u fun b hb => ?_
      · obtain ⟨hb, hne⟩ := hb
        rcases hb with y | y
        · exact .inl ⟨.inl y, hne⟩
        · rcases y with rfl | rfl | rfl | ⟨z, hz, y⟩
          · exact .inl ⟨.inr (.inl rfl), hne⟩
          · exact .inl ⟨.inr (.inr (.inl rfl)), hne⟩
          · exact .inl ⟨.inr (.inr (.inr (.inl rfl))), hne⟩
          · rcases hL z hz with v | v
            · exact .inl ⟨.inr (.inr (.inr (.inr ⟨z, v, y⟩))), hne⟩
            · right
              rcases y with rfl | rfl
              · exact v.1
              · exact v.2.1
      · rcases hb with rfl | rfl
        · exact ⟨.inr (.inl rfl), fun e => (hold o x).2.2.1 e.symm⟩
        · exact ⟨.inr (.inr (.inr (.inl rfl))), fun e => (hold o x).2.2.2 e.symm⟩
    · obtain ⟨f, s, n, e, kb⟩ := x.2.2.2
      refine ⟨⟨none, 0, none, 0, none, 0, ?_, ?_, ?_, ?_⟩, fun y => y.2 rfl⟩
      · rw [e] at kb ⊢; exact kb
      · rw [e]; exact Rw.nil _ _
      · rw [e]; exact Rw.nil _ _
      · exact Rw.nil _ _
  · rcases hb with rfl | rfl | rfl | ⟨o, ho, hb⟩
    · exact h.sep _ (.inl rfl) x
    · exact h.sep _ (.inr (.inl rfl)) x
    · exact h.sep _ (.inr (.inr (.inl rfl))) x
    · rcases hL o ho with y | y
      · exact h.sep b (.inr (.inr (.inr ⟨o, y, hb⟩))) x
      · have := hZ b x
        rcases hb with rfl | rfl
        · omega
        · omega
theorem take_mem {l : List OwR} {t : Nat} {x : OwR} (h : x ∈ l.take t) : ∃ i, i < t ∧ l[i]? = some x := by
  obtain ⟨i, hi⟩ := List.getElem?_of_mem h
  rw [List.getElem?_take] at hi
  split at hi
  · rename_i h1; exact ⟨i, h1, hi⟩
  · cases hi
theorem drop_mem {l : List OwR} {t : Nat} {x : OwR} (h : x ∈ l.drop t) : ∃ i, t ≤ i ∧ l[i]? = some x := by
  obtain ⟨i, hi⟩ := List.getElem?_of_mem h
  rw [List.getElem?_drop] at hi
  exact ⟨t + i, by omega, hi⟩
theorem cut_split {Y : SG} (g : GoodG Y) {t : Nat} {o : OwR} (h : Y.L[t]? = some o) : (Y.cut o).L = Y.L.take t ++ Y.L.drop (t + 1) := by
  show Y.L.filter _ = _
  have hs : Y.L = Y.L.take t ++ o :: Y.L.drop (t + 1) := by
    obtain ⟨hl, e⟩ := List.getElem?_eq_some_iff.1 h
    rw [← e, List.getElem_cons_drop, List.take_append_drop]
  have ho : o ∈ Y.L := List.mem_of_getElem? h
  have hw := (g.fit o ho).2.1
  have h1 : ∀ x ∈ Y.L.take t, decide (x.lo ≠ o.lo) = true := fun x hx => by
    obtain ⟨i, hi, e⟩ := take_mem hx
    have := rise_at g.rise hi e h
    have := (g.fit x (List.mem_of_getElem? e)).2.1
    simp; omega
  have h2 : ∀ x ∈ Y.L.drop (t + 1), decide (x.lo ≠ o.lo) = true := fun x hx => by
    obtain ⟨i, hi, e⟩ := drop_mem hx
    have := rise_at g.rise (show t < i by omega) h e
    simp; omega
  conv => lhs; rw [hs]
  rw [List.filter_append, List.filter_cons_of_neg (by simp), filter_all h1, filter_all h2]
theorem infoPD : (Tryd.prog.info? 40).map (fun i => (i.zero, i.size, i.bytes)) = some (some (.pointer none), 1, 8) := by kernel_rfl
theorem sizePD (w : World) : (sizeOf (Tryd.prog.elem 60)).run Tryd.prog w = .ok Elem.ptrs.size w := by kernel_rfl
theorem vecP_new (w : World) (t : TypeId) (g : Nat) (hg : g = w.heap.size) : Vec Elem.ptrs (w.alloc (.cells #[] t)) (.slice (some ⟨g, 0, none⟩) 0 0) [] := by subst hg; exact Vec.new w t
theorem drop_end {Z : Nat → Prop} {w w3 w6 : World} {q mk gm t n2 cap2 : Nat} {Y : SG} {o : OwR} {a2 : Option Addr} (h : RD Z w q mk gm Y) (hZ : ∀ b, Z b → b < w.heap.size) (g : GoodG Y) (hoe : Y.L[t]? = some o) (s3 : Upd (fun b => b = gm) w w3)
    (hM : Mk.IsRef w3 mk gm (MarkMath.setAt Y.K o.lo o.wd false)) (b3 : Below w3.heap.size w3 w6) (V : Vec Elem.ptrs w6 (.slice a2 n2 cap2) (([] ++ (Y.L.map opD).take t) ++ (Y.L.map opD).drop (t + 1))) (hin : ∀ k, In (.slice a2 n2 cap2) k → w3.heap.size ≤ k) (hc1 : n2 ≤ cap2) (hc2 : cap2 ≤ 9223372036854775807) :
    RD Z (w6.setCell ⟨q, 2, none⟩ (.slice a2 n2 cap2)) q mk gm (Y.cut o) ∧ Upd (fun b => b = q ∨ b = gm) w (w6.setCell ⟨q, 2, none⟩ (.slice a2 n2 cap2)) := by
  obtain ⟨ar, cap, kq, _⟩ := h.B
  have hqg : q ≠ gm := kq.ne h.M.row (by decide)
  have hqm : q ≠ mk := kq.ne h.M.head (by decide)
  have eL := cut_split g hoe
  have eM : ([] ++ (Y.L.map opD).take t) ++ (Y.L.map opD).drop (t + 1) = (Y.cut o).L.map opD := by rw [eL, List.nil_append, List.map_append, List.map_take, List.map_drop]
  rw [eM] at V
  have hn2 : n2 = (Y.cut o).L.length := by have := V.seq.len; rw [List.length_map] at this; exact this
  have hu := (Upd.refl (fun b => b = q) w6).setCell (p := ⟨q, 2, none⟩) (.inl rfl) (.slice a2 n2 cap2)
  have k6 := ((kq.upd s3 hqg).grew b3).put 2 (.slice a2 n2 cap2)
  have hsz := s3.size
  have hne : ∀ k, In (.slice a2 n2 cap2) k → k ≠ q := fun k hk e => by have := hin k hk; have := kq.lt; omega
  have u : Upd (fun b => b = q ∨ b = gm) w (w6.setCell ⟨q, 2, none⟩ (.slice a2 n2 cap2)) := ((s3.mono fun b e => .inr e).trans ((updFalse_of b3).mono fun _ x => x.elim)).trans (hu.mono fun b e => .inl e)
  have hsub : ∀ x ∈ (Y.cut o).L, x ∈ Y.L := fun x hx => (List.mem_filter.1 hx).1
  refine ⟨h.turn hZ u w3.heap.size hsz (fun b hb => ?_) ⟨a2, cap2, ?_, ?_, by rw [← hn2]; exact hc1, hc2, fun b hb => ?_⟩ ?_ (fun x hx => .inl (hsub x hx)) (h.pps.sublist (List.filter_sublist.map _)), u⟩
  · have : DN q mk gm Y b := by
      rcases hb with e | e | e | ⟨x, hx, e⟩
      · exact .inl e
      · exact .inr (.inl e)
      · exact .inr (.inr (.inl e))
      · exact .inr (.inr (.inr ⟨x, hsub x hx, e⟩))
    have := h.lt this
    omega
  · rw [← hn2]; exact k6
  · rw [← hn2]; exact V.seq.upd hu hne
  · rw [← hn2] at hb
    refine ⟨hin b hb, ?_⟩
    have := V.lt hb
    simpa [World.setCell] using this
  · exact (hM.grew b3).upd hu (fun e => hqm e.symm) (fun e => hqg e.symm)
def DropRd (w : World) (l : List OwR) (n : Int) (i : Value) (wr : World) : Prop := ∃ t : Nat, t ≤ l.length ∧ i = .int .i64 (t : Int) ∧ (∀ x ∈ l.take t, (x.lo : Int) ≠ n) ∧ Below w.heap.size w wr
set_option maxHeartbeats 4000000 in
theorem rd_drop {Z : Nat → Prop} {w : World} {q mk gm : Nat} {Y : SG} (h : RD Z w q mk gm Y) (hZ : ∀ b, Z b → b < w.heap.size) (g : GoodG Y) {n : Int} (hn : I64B n) :
    Calls Tryd.prog 19 #[.pointer (some ⟨q, 0, none⟩), .int .i64 n] w fun e w' => e = .returned (.int .i64 (dropE Y n).2) ∧ RD Z w' q mk gm (dropE Y n).1 ∧ Upd (fun b => b = q ∨ b = gm) w w' := by
  obtain ⟨i0, hi, hz0, hz1, hz2⟩ := info_parts infoPD
  obtain ⟨ar, cap, kq0, hsq0, hlc, hcap, hin0⟩ := h.B
  have c2 : w.cell? ⟨q, 2, none⟩ = some (.slice ar Y.L.length cap) := kq0.cell 2
  have hrow : ∀ w', Below w.heap.size w w' → Seq Elem.ptrs w' (.slice ar Y.L.length cap) (Y.L.map opD) := fun w' hb => hsq0.upd (updFalse_of hb) fun _ _ => id
  have KQ := Lib.hid kq0; have HIN := Lib.hid hin0
  obtain ⟨N, hN⟩ : ∃ n, Y.L.length = n := ⟨_, rfl⟩
  rw [hN] at c2 hlc
  have hN15 : N ≤ 15 := by rw [← hN]; exact g.count
  have HN := Lib.hid hN
  have H0 := Lib.hid h; have HG := Lib.hid g; have ROW := Lib.hid hrow; have HZ := Lib.hid hZ
  obtain ⟨n1, n2⟩ := hn
  obtain ⟨D, hD⟩ : ∃ D, dropE Y n = D := ⟨_, rfl⟩
  rw [hD]
  have HD := Lib.hid hD
  clear hD
  have I0 := Lib.hid (show DropRd w Y.L n (.int .i64 0) w from ⟨0, Nat.zero_le _, rfl, (by intro x hx; cases hx), Below.refl _ _⟩)
  clear h hZ g hrow hN kq0 hsq0 hin0
  go_enter Tryd.func19, Tryd.ntmps19
  go_wp2
  clear c2
  go_loopw [12] (fun i wr => DropRd w Y.L n i wr) (fun i _ => N - (intOf i).toNat)
  case atStart => exact I0.out
  case round =>
    clear I0
    obtain ⟨t, ht, rfl, hno, hb⟩ := hrel
    rw [HN.out] at ht
    have NO := Lib.hid hno; have B := Lib.hid hb
    by_cases htn : t < N
    · have htl : t < Y.L.length := by rw [HN.out]; exact htn
      obtain ⟨o, hoe⟩ : ∃ o, Y.L[t]? = some o := ⟨Y.L[t]'htl, List.getElem?_eq_getElem _⟩
      have hoY : o ∈ Y.L := List.mem_of_getElem? hoe
      obtain ⟨b, off, ea, d0⟩ := ptr_at (ROW.out wr hb) hoe
      subst ea
      have rg := H0.out.grew hb
      have o0 := rg.o0 hoY
      have o2 := rg.o2 hoY
      have o3 := rg.o3 hoY
      obtain ⟨vF, vG, vP, kp⟩ := rg.p hoY
      have p4 : wr.cell? ⟨o.pp, 4, none⟩ = some (.int .i64 (o.P.used : Int)) := kp.cell 4
      have t1 : decide ((t : Int) < (N : Int)) = true := decide_eq_true (by omega)
      have t1' : decide (t < N) = true := decide_eq_true htn
      have p0 : (0 : Int) ≤ (t : Int) := by omega
      have p1 : (t : Int) < (N : Int) := by omega
      have ej : (((t + 1 : Nat)) : Int) = (t : Int) + 1 := by omega
      obtain ⟨oo, hoo⟩ : ∃ x, o.op = x := ⟨_, rfl⟩
      obtain ⟨opp, hopp⟩ : ∃ x, o.pp = x := ⟨_, rfl⟩
      obtain ⟨lo, hlo⟩ : ∃ x, o.lo = x := ⟨_, rfl⟩
      obtain ⟨wd, hwd⟩ : ∃ x, o.wd = x := ⟨_, rfl⟩
      obtain ⟨us, hus⟩ : ∃ x, o.P.used = x := ⟨_, rfl⟩
      rw [hoo] at d0 o0 o2 o3
      rw [hopp] at o0 p4
      rw [hlo] at o2
      rw [hwd] at o3
      rw [hus] at p4
      have HX := Lib.hid (And.intro hoe (And.intro hoY (And.intro hoo (And.intro hopp (And.intro hlo (And.intro hwd hus))))))
      clear hoe hoY hno rg kp
      by_cases hlon : (lo : Int) = n
      · subst hlon
        have hat : atS Y (lo : Int) = some o := by rw [← hlo]; exact HG.out.atS_of HX.out.2.1
        have t2 : ((lo : Int) != (lo : Int)) = false := by simp
        by_cases hu : 0 < us
        · have e1 : dropE Y (lo : Int) = (Y, 6) := by unfold dropE; rw [hat]; simp only []; rw [if_pos (by rw [hus]; exact hu)]
          obtain rfl : D = (Y, 6) := HD.out.symm.trans e1
          have t3 : decide ((0 : Int) < (us : Int)) = true := decide_eq_true (by omega)
          have t3' : decide (0 < us) = true := decide_eq_true hu
          clear e1 hat hb hoo hopp hlo hwd hus hu
          go_wp2
          go_ret
          exact ⟨rfl, H0.out.grew B.out, (updFalse_of B.out).mono fun _ x => x.elim⟩
        · have e1 : dropE Y (lo : Int) = (Y.cut o, 0) := by unfold dropE; rw [hat]; simp only []; rw [if_neg (by rw [hus]; exact hu)]
          obtain rfl : D = (Y.cut o, 0) := HD.out.symm.trans e1
          have hu0 : us = 0 := by omega
          subst hu0
          have t3 : decide ((0 : Int) < 0) = false := by decide
          have hfit := HG.out.fit o HX.out.2.1
          rw [hlo, hwd] at hfit
          have hwa := HG.out.taken HX.out.2.1
          rw [hlo, hwd] at hwa
          have hfr := fun (w' : World) (hM : Mk.IsRef w' mk gm Y.K) => Mk.ref_free hM (lo : Int) (wd : Int) ⟨by omega, by omega⟩ ⟨by omega, by omega⟩
          rw [Mk.turnL_yes hfit.2.1 (b := false) hwa, Mk.turnE_yes (code := 5) hfit.2.1 (b := false) hwa] at hfr
          have FR := Lib.hid hfr
          have rg := H0.out.grew hb
          have M1 := Lib.hid rg.M
          have c1 : wr.cell? ⟨q, 1, none⟩ = some (.pointer (some ⟨mk, 0, none⟩)) := rg.c1
          have kq := KQ.out.grew hb
          have hqg : q ≠ gm := kq.ne rg.M.row (by decide)
          have hog : oo ≠ gm := by rw [← hoo]; exact (rg.own o HX.out.2.1).ne rg.M.row (by decide)
          have C3 := Lib.hid (fun (w3 : World) (u : Upd (fun b => b = gm) wr w3) => show w3.cell? ⟨q, 1, none⟩ = some (.pointer (some ⟨mk, 0, none⟩)) ∧ w3.cell? ⟨oo, 3, none⟩ = some (.int .i64 (wd : Int)) from ⟨(World.cell?_of_block (w := wr) (u.block q kq.lt hqg)).trans c1, (World.cell?_of_block (w := wr) (u.block oo (World.block_lt_of_cell? _ _ o3) hog)).trans o3⟩)
          have NE := Lib.hid (And.intro hqg hog)
          have HFIT := Lib.hid hfit
          clear e1 hat hb hoo hopp hlo hwd hus hu hfit hwa hfr rg kq
          go_wp2_with fail
          clear o0 o2 p4 d0
          go_region_held3 (fun w' => w'.cell? ⟨q, 1, none⟩ = some (.pointer (some ⟨mk, 0, none⟩)) ∧ w'.cell? ⟨oo, 3, none⟩ = some (.int .i64 (wd : Int))) (first | go_keep | exact ⟨c1, o3⟩)
            (first
              | (go_at_call 53; (first | (with_reducible refine (FR.out _ M1.out.drew).mono ?_) | (with_reducible refine (FR.out _ M1.out).mono ?_)); rintro e w3 ⟨rfl, hm3, hu3⟩; have U3 : Hid (Upd (fun b => b = gm) wr w3) := Lib.hid (by first | exact (Upd.refl (fun b => b = gm) wr).drew.trans hu3 | exact hu3); have c1 := (C3.out _ U3.out).1; have o3 := (C3.out _ U3.out).2; have M3 := Lib.hid hm3; clear hm3 hu3))
          clear c1 o3
          have s3 : Upd (fun b => b = gm) w w3 := ((updFalse_of B.out).mono fun _ x => x.elim).trans U3.out
          have kq3 := KQ.out.upd s3 NE.out.1
          rw [HN.out] at kq3
          have sq3 : Seq Elem.ptrs w3 (.slice (some ⟨b, off, none⟩) N cap) (Y.L.map opD) := by
            have := (ROW.out wr B.out).upd U3.out (fun b' hb' e => (HIN.out b' hb').2.1 (.inr (.inr (.inl e))))
            rw [HN.out] at this; exact this
          obtain ⟨sv1, hs1, hi1, hq1⟩ := cut_to (E := Elem.ptrs) (P := Tryd.prog) 60 Tryd.underlying60 sizePD (some ⟨b, off, none⟩) N cap t (by omega)
          obtain ⟨sv2, hs2, hi2, hq2, _⟩ := cut_from (E := Elem.ptrs) (P := Tryd.prog) 60 Tryd.underlying60 sizePD (some ⟨b, off, none⟩) N cap (t + 1) (by omega) hlc
          rw [show ((t + 1 : Nat) : Int) = (t : Int) + 1 by omega] at hs2
          have hwj : IntKind.i64.wrap ((t : Int) + 1) = (t : Int) + 1 := IntWalk.i64_in _ ⟨by omega, by omega⟩
          have len0 : (Y.L.map opD).length = N := by rw [List.length_map, HN.out]
          have len1 : ((Y.L.map opD).take t).length ≤ 64 := by rw [List.length_take, len0]; omega
          have len2 : ((Y.L.map opD).drop (t + 1)).length ≤ 64 := by rw [List.length_drop, len0]; omega
          have SQ : Hid (∀ w', Below w3.heap.size w3 w' → Seq Elem.ptrs w' sv1 ((Y.L.map opD).take t) ∧ Seq Elem.ptrs w' sv2 ((Y.L.map opD).drop (t + 1)) ∧ w'.cell? ⟨q, 2, none⟩ = some (.slice (some ⟨b, off, none⟩) N cap) ∧ w'.frozen? ⟨q, 2, none⟩ = false) :=
            Lib.hid fun w' hb => by
              have qq := sq3.upd (updFalse_of hb) fun _ _ => id
              have k2 := kq3.grew hb
              exact ⟨hq1 _ _ qq (by omega), hq2 _ _ qq, k2.cell 2, k2.frozen 2⟩
          have x2 := (SQ.out _ (Below.refl _ w3)).2.2.1
          have x2a := (SQ.out _ ((Below.refl _ w3).alloc (Nat.le_refl _) (.cells #[] 40))).2.2.1
          have LEN : Hid ((([] ++ (Y.L.map opD).take t) ++ (Y.L.map opD).drop (t + 1)).length = N - 1) := Lib.hid (by
            rw [List.nil_append, List.length_append, List.length_take, List.length_drop, len0]; omega)
          have S3 := Lib.hid s3; have KQ3 := Lib.hid kq3
          clear hi1 hq1 hi2 hq2 s3 kq3 sq3 len0
          go_wp2_with fail
          go_region_law (first
            | (refine step_append_vec (E := Elem.ptrs) rfl (.tmp 42) (.tmp 48) 60 rfl 40 i0 (.pointer none) 8 Tryd.underlying60 hi hz0 hz1 hz2 rfl (.slice (some ⟨w3.heap.size, 0, none⟩) 0 0) sv1 [] ((Y.L.map opD).take t) ?_ ?_ ?_ ?_ ?_ ?_ ?_
               · go_simp
               · go_simp
               · first | exact vecP_new w3 _ _ rfl | exact (vecP_new w3 _ _ rfl).drew | exact vecP_new w3.drew _ _ rfl
               · first | exact (SQ.out _ ((Below.refl _ w3).alloc (Nat.le_refl _) _)).1 | exact (SQ.out _ ((Below.refl _ w3).alloc (Nat.le_refl _) _).drew).1 | exact (SQ.out _ ((Below.refl _ w3).drew.alloc (Nat.le_refl _) _)).1
               · simp only [maxLen, List.length_nil]; omega
               · simp only [List.length_nil]; omega
               intro v1 w5 hv1 hu1 hin1
               have B1 : Hid (Below w3.heap.size w3 w5) := Lib.hid (by
                 refine Below.trans ?_ (hu1.below (B := w3.heap.size) (fun k hk => by have := in_at9 hk; omega) ?_)
                 · first | exact (Below.refl _ w3).alloc (Nat.le_refl _) _ | exact ((Below.refl _ w3).alloc (Nat.le_refl _) _).drew | exact (Below.refl _ w3).drew.alloc (Nat.le_refl _) _
                 · first | exact ((Below.refl _ w3).alloc (Nat.le_refl _) _).size | exact ((Below.refl _ w3).drew.alloc (Nat.le_refl _) _).size)
               have N1 : Hid (∀ k, In v1 k → w3.heap.size ≤ k) := Lib.hid (fun k hk => by rcases hin1 k hk with x | x; (have := in_at9 x; omega); (simp at x; omega))
               have V1 := Lib.hid hv1
               have x2b := (SQ.out _ B1.out).2.2.1
               clear hv1 hu1 hin1)
            | (refine step_append_vec (E := Elem.ptrs) rfl (.tmp 49) (.tmp 56) 60 rfl 40 i0 (.pointer none) 8 Tryd.underlying60 hi hz0 hz1 hz2 rfl v1 sv2 ([] ++ (Y.L.map opD).take t) ((Y.L.map opD).drop (t + 1)) ?_ ?_ V1.out (SQ.out _ B1.out).2.1 ?_ ?_ ?_
               · go_simp
               · go_simp
               · simp only [maxLen, List.nil_append]; omega
               · simp only [List.nil_append]; omega
               intro v2 w6 hv2 hu2 hin2
               obtain ⟨a2, cap2, ev2, hc1, hc2⟩ := hv2.slice'
               rw [LEN.out] at ev2 hc1
               obtain ⟨n2', hn2'⟩ : ∃ n, N - 1 = n := ⟨_, rfl⟩
               rw [hn2'] at ev2 hc1
               subst ev2
               have B3 := Lib.hid (Below.trans B1.out (hu2.below N1.out B1.out.size))
               have N2 : Hid (∀ k, In (.slice a2 n2' cap2) k → w3.heap.size ≤ k) := Lib.hid (fun k hk => by rcases hin2 k hk with x | x; exact N1.out k x; exact Nat.le_trans B1.out.size x)
               have V2 := Lib.hid hv2
               have x2c := (SQ.out _ B3.out).2.2.1
               have f2c := (SQ.out _ B3.out).2.2.2
               clear hv2 hu2 hin2))
          all_goals
            clear x2 x2a hs1 hs2 hwj t2 t3
            go_wp2
            go_ret
            obtain ⟨y1, y2, y3, y4, y5, y6, y7⟩ := HX.out
            have hm3 := M3.out
            rw [← y5, ← y6] at hm3
            obtain ⟨j1, j2⟩ := drop_end H0.out HZ.out HG.out y1 S3.out hm3 B3.out V2.out N2.out hc1 hc2
            exact ⟨rfl, j1, j2⟩
      · have t2 : ((lo : Int) != n) = true := by rw [bne_iff_ne]; exact hlon
        have hnx := Lib.hid (take_next (φ := fun x => (x.lo : Int) ≠ n) NO.out HX.out.1 (by rw [hlo]; exact hlon))
        clear hb hoo hopp hlo hwd hus hlon o0 o3 p4
        go_wp2
        go_roundw
        case rel => exact ⟨t + 1, by rw [HN.out]; omega, by rw [ej], hnx.out, B.out⟩
        case measure => simp [intOf]; omega
    · obtain rfl : t = N := by omega
      have t1 : decide ((t : Int) < (t : Int)) = false := decide_eq_false (by omega)
      have e1 : dropE Y n = (Y, 5) := by
        have : atS Y n = none := List.find?_eq_none.2 fun x hx => by
          rw [← HN.out, List.take_length] at hno
          have := hno x hx
          simp; exact this
        unfold dropE; rw [this]
      obtain rfl : D = (Y, 5) := HD.out.symm.trans e1
      clear e1 hno hb
      go_wp2
      go_ret
      exact ⟨rfl, H0.out.grew B.out, (updFalse_of B.out).mono fun _ x => x.elim⟩
end Go.Proofs.YtomepdgddpajoaaDoor
/- The document's own segment: add, Page, Big: contracts. -/
namespace Go.Proofs.YtomepdgddpajoaaDoor
open Go.RowKit ListMath PageMath GeoMath SegMath ClassMath
set_option linter.unusedVariables false
set_option maxRecDepth 100000

theorem refmarks_same {w w' : World} {k gk : Nat} {K : List Bool} (h : Mk.IsRef w k gk K) (h' : Mk.IsRef w' k gk K) (u : Upd (fun b => b = gk) w w') : Below w.heap.size w w' :=
  ⟨u.os, u.tape, u.output, u.size, fun x hx => by
    by_cases e : x = gk
    · subst e
      have h1 : w'.heap[x]? = _ := h'.row
      have h2 : w.heap[x]? = _ := h.row
      rw [h1, h2]
    · exact u.block x hx e⟩
theorem rd_add_full {Z : Nat → Prop} {w : World} {q mk gm : Nat} {Y : SG} (h : RD Z w q mk gm Y) (g : GoodG Y) {n : Nat} (h1 : 1 ≤ n) (h2 : n ≤ 16) (hl : MarkMath.low Y.K n = none) (cls bl : Int) (s : Nat) :
    Calls Tryd.prog 51 #[.pointer (some ⟨q, 0, none⟩), .int .i64 cls, .int .i64 (n : Int), .int .i64 bl, .int .u64 (s : Int)] w fun e w' => e = .returned (.tuple #[.pointer none, .int .i64 4]) ∧ Below w.heap.size w w' := by
  have c1 := h.c1
  have ht := Mk.ref_take h.M (n : Int) ⟨by omega, by omega⟩
  obtain ⟨e1, e2, e3⟩ := Mk.take_full h1 (by rw [g.len]; exact h2) hl
  rw [e1, e2, e3] at ht
  have HT := Lib.hid ht
  have H0 := Lib.hid h
  clear h g ht e1 e2 e3 hl
  go_enter Tryd.func51, Tryd.ntmps51
  go_wp2_with fail
  refine HT.out.mono ?_; rintro e w1 ⟨rfl, hm, hu⟩
  have B1 := Lib.hid (refmarks_same H0.out.M hm hu)
  clear hm hu c1
  go_wp2
  go_ret2
  exact ⟨rfl, B1.out⟩
theorem two_newD {w W : World} {t1 t2 : TypeId} {A : Array Value} {f : Nat → Array Value} (h : (w.alloc (.cells A t1)).alloc (.cells (f w.heap.size) t2) = W) : Blk W w.heap.size t1 A ∧ Blk W (w.heap.size + 1) t2 (f w.heap.size) ∧ Below w.heap.size w W ∧ W.heap.size = w.heap.size + 2 := by
  subst h
  have e : (w.alloc (.cells A t1)).heap.size = w.heap.size + 1 := by simp
  refine ⟨(Blk.new w t1 A).alloc _, ?_, ((Below.refl _ w).alloc (Nat.le_refl _) _).alloc (by simp) _, by simp⟩
  have := Blk.new (w.alloc (.cells A t1)) t2 (f w.heap.size)
  rwa [e] at this
def loP (a : Nat) (x : OwR) : Bool := decide (x.lo < a)
def hiP (a : Nat) (x : OwR) : Bool := decide (a < x.lo)
def AddR (w2 : World) (pre l : List OwR) (p : OwR → Bool) (v i : Value) (wr : World) : Prop :=
  ∃ t : Nat, t ≤ l.length ∧ i = .int .i64 (t : Int) ∧ Vec Elem.ptrs wr v ((pre ++ (l.take t).filter p).map opD) ∧ (∀ b, In v b → w2.heap.size ≤ b) ∧ Below w2.heap.size w2 wr
theorem filt_yes {l : List OwR} {t : Nat} {o : OwR} {p : OwR → Bool} (h : l[t]? = some o) (hp : p o = true) : (l.take (t + 1)).filter p = (l.take t).filter p ++ [o] := by
  rw [List.take_add_one, List.filter_append, h]; simp [hp]
theorem filt_no {l : List OwR} {t : Nat} {o : OwR} {p : OwR → Bool} (h : l[t]? = some o) (hp : p o = false) : (l.take (t + 1)).filter p = (l.take t).filter p := by
  rw [List.take_add_one, List.filter_append, h]; simp [hp]
theorem filt_len (l : List OwR) (t : Nat) (p : OwR → Bool) : ((l.take t).filter p).length ≤ l.length := by
  have h1 := List.length_filter_le p (l.take t)
  have h2 := List.length_take_le t l
  have h3 : (l.take t).length ≤ l.length := by rw [List.length_take]; omega
  omega
theorem ptrD_one (w : World) (t : TypeId) (x : Nat) (g : Nat) (hg : g = w.heap.size) : Seq Elem.ptrs (w.alloc (.cells #[.pointer (some ⟨x, 0, none⟩)] t)) (.slice (some ⟨g, 0, none⟩) 1 1) [some (⟨x, 0, none⟩ : Addr)] := by
  subst hg; exact Seq.new w t [some (⟨x, 0, none⟩ : Addr)] 1
theorem map_injD {φ : OwR → Nat} {l : List OwR} (h : (l.map φ).Nodup) {a b : OwR} (ha : a ∈ l) (hb : b ∈ l) (e : φ a = φ b) : a = b := by
  induction l with
  | nil => cases ha
  | cons x t ih =>
    rw [List.map_cons, List.nodup_cons] at h
    rcases List.mem_cons.1 ha with rfl | ha2
    · rcases List.mem_cons.1 hb with rfl | hb2
      · rfl
      · exact absurd (List.mem_map.2 ⟨b, hb2, e.symm⟩) h.1
    · rcases List.mem_cons.1 hb with rfl | hb2
      · exact absurd (List.mem_map.2 ⟨a, ha2, e⟩) h.1
      · exact ih h.2 ha2 hb2
theorem insR_nodupD {φ : OwR → Nat} {l : List OwR} {o : OwR} (h : (l.map φ).Nodup) (hne : ∀ x ∈ l, φ x ≠ φ o) : ((insR l o).map φ).Nodup := by
  unfold insR
  rw [List.map_append, List.map_cons, List.nodup_append, List.nodup_cons]
  have sub : ∀ q : OwR → Bool, ((l.filter q).map φ).Nodup := fun q => h.sublist (List.filter_sublist.map φ)
  refine ⟨sub _, ⟨fun hm => ?_, sub _⟩, fun a ha b hb => ?_⟩
  · obtain ⟨x, hx, e⟩ := List.mem_map.1 hm
    exact hne x (List.mem_filter.1 hx).1 e
  · obtain ⟨x, hx, rfl⟩ := List.mem_map.1 ha
    obtain ⟨x1, x2⟩ := List.mem_filter.1 hx
    rcases List.mem_cons.1 hb with rfl | hb
    · exact hne x x1
    · obtain ⟨y, hy, rfl⟩ := List.mem_map.1 hb
      obtain ⟨y1, y2⟩ := List.mem_filter.1 hy
      intro e
      have := map_injD h x1 y1 e
      subst this
      simp at x2 y2
      omega
theorem add_end {Z : Nat → Prop} {w w1 w2 w9 : World} {q mk gm a n s bl op pp m cv : Nat} {cls : Int} {Y : SG} {av : Option Addr} (h : RD Z w q mk gm Y) (hZ : ∀ b, Z b → b < w.heap.size) (u1 : Upd (fun b => b = gm) w w1)
    (hM : Mk.IsRef w1 mk gm (MarkMath.setAt Y.K a n true)) (bw : Below w1.heap.size w1 w2) (hop : pp + 1 = op) (hpp : w1.heap.size = pp) (hsz : w2.heap.size = pp + 2)
    (ko : Blk w2 op 54 #[.pointer (some ⟨pp, 0, none⟩), .int .i64 cls, .int .i64 (a : Int), .int .i64 (n : Int)])
    (kp : Blk w2 pp 110 #[.int .u64 ((fromS Y.pl a : Nat) : Int), .int .u64 (s : Int), .int .i64 (bl : Int), .int .i64 0, .int .i64 0, .slice none 0 0, .slice none 0 0, .slice none 0 0, .int .u64 0, .int .i64 0])
    (b9 : Below w2.heap.size w2 w9) (V : Vec Elem.ptrs w9 (.slice av m cv) ((Y.L.filter (loP a) ++ [(⟨op, pp, cls, a, n, newPG (fromS Y.pl a) s bl⟩ : OwR)] ++ Y.L.filter (hiP a)).map opD)) (hin : ∀ k, In (.slice av m cv) k → w2.heap.size ≤ k) (hc1 : m ≤ cv) (hc2 : cv ≤ 9223372036854775807) :
    RD Z (w9.setCell ⟨q, 2, none⟩ (.slice av m cv)) q mk gm (Y.add op pp cls a n bl s) ∧ Upd (fun b => b = q ∨ b = gm) w (w9.setCell ⟨q, 2, none⟩ (.slice av m cv)) := by
  obtain ⟨ar, cap, kq, _⟩ := h.B
  have hqg : q ≠ gm := kq.ne h.M.row (by decide)
  have hqm : q ≠ mk := kq.ne h.M.head (by decide)
  have eM : Y.L.filter (loP a) ++ [(⟨op, pp, cls, a, n, newPG (fromS Y.pl a) s bl⟩ : OwR)] ++ Y.L.filter (hiP a) = (Y.add op pp cls a n bl s).L := by rw [List.append_assoc]; rfl
  rw [eM] at V
  have hm2 : m = (Y.add op pp cls a n bl s).L.length := by have := V.seq.len; rw [List.length_map] at this; exact this
  have hu := (Upd.refl (fun b => b = q) w9).setCell (p := ⟨q, 2, none⟩) (.inl rfl) (.slice av m cv)
  have k9 := (((kq.upd u1 hqg).grew bw).grew b9).put 2 (.slice av m cv)
  have hs1 := u1.size
  have hql := kq.lt
  have hne : ∀ k, In (.slice av m cv) k → k ≠ q := fun k hk e => by have := hin k hk; omega
  have hopq : op ≠ q := by omega
  have hppq : pp ≠ q := by omega
  have u : Upd (fun b => b = q ∨ b = gm) w (w9.setCell ⟨q, 2, none⟩ (.slice av m cv)) := (((u1.mono fun b e => .inr e).trans ((updFalse_of bw).mono fun _ x => x.elim)).trans ((updFalse_of b9).mono fun _ x => x.elim)).trans (hu.mono fun b e => .inl e)
  have hmem : ∀ x ∈ (Y.add op pp cls a n bl s).L, x = ⟨op, pp, cls, a, n, newPG (fromS Y.pl a) s bl⟩ ∨ x ∈ Y.L := fun x hx => by
    rcases insR_mem.1 (show x ∈ insR Y.L _ from hx) with e | e
    · exact .inl e
    · exact .inr e.1
  have hold : ∀ o ∈ Y.L, o.pp < w.heap.size := fun o ho => h.lt (.inr (.inr (.inr ⟨o, ho, .inr rfl⟩)))
  refine ⟨h.turn hZ u w2.heap.size (by omega) (fun b hb => ?_) ⟨av, cv, ?_, ?_, by rw [← hm2]; exact hc1, hc2, fun b hb => ?_⟩ ?_ (fun x hx => ?_) (insR_nodupD h.pps fun x hx => by have := hold x hx; show x.pp ≠ pp; omega), u⟩
  · rcases hb with e | e | e | ⟨x, hx, e⟩
    · have := h.lt (.inl e : DN q mk gm Y b); omega
    · have := h.lt (.inr (.inl e) : DN q mk gm Y b); omega
    · have := h.lt (.inr (.inr (.inl e)) : DN q mk gm Y b); omega
    · rcases hmem x hx with rfl | hx
      · rcases e with e | e
        · have e2 : b = op := e
          omega
        · have e2 : b = pp := e
          omega
      · have := h.lt (.inr (.inr (.inr ⟨x, hx, e⟩)) : DN q mk gm Y b); omega
  · rw [← hm2]; exact k9
  · rw [← hm2]; exact V.seq.upd hu hne
  · rw [← hm2] at hb
    refine ⟨hin b hb, ?_⟩
    have := V.lt hb
    simpa [World.setCell] using this
  · exact ((hM.grew bw).grew b9).upd hu (fun e => hqm e.symm) (fun e => hqg e.symm)
  · rcases hmem x hx with rfl | hx
    · right
      refine ⟨show w.heap.size ≤ op by omega, show w.heap.size ≤ pp by omega, (ko.grew b9).upd hu hopq, _, _, _, rfl, (kp.grew b9).upd hu hppq⟩
    · exact .inl hx
set_option maxHeartbeats 4000000 in
theorem rd_add {Z : Nat → Prop} {w : World} {q mk gm : Nat} {Y : SG} (h : RD Z w q mk gm Y) (hZ : ∀ b, Z b → b < w.heap.size) (g : GoodG Y) (hpl : Y.pl ≤ 3) {n a s bl : Nat} {cls : Int} (h1 : 1 ≤ n) (h2 : n ≤ 15) (hl : MarkMath.low Y.K n = some a) :
    Calls Tryd.prog 51 #[.pointer (some ⟨q, 0, none⟩), .int .i64 cls, .int .i64 (n : Int), .int .i64 (bl : Int), .int .u64 (s : Int)] w fun e w' => ∃ op pp, e = .returned (.tuple #[.pointer (some ⟨op, 0, none⟩), .int .i64 0]) ∧ RD Z w' q mk gm (Y.add op pp cls a n bl s) ∧ w.heap.size ≤ op ∧ w.heap.size ≤ pp ∧ Upd (fun b => b = q ∨ b = gm) w w' := by
  obtain ⟨i0, hi, hz0, hz1, hz2⟩ := info_parts infoPD
  have hf := (MarkMath.low_some h1 hl).1
  obtain ⟨a1, a2, a3⟩ := g.free h1 hf
  have c0 := h.c0; have c1 := h.c1
  have ht := Mk.ref_take h.M (n : Int) ⟨by omega, by omega⟩
  obtain ⟨e1, e2, e3⟩ := Mk.take_yes h1 (by rw [g.len]; omega) hl
  rw [e1, e2, e3] at ht
  have HT := Lib.hid ht
  obtain ⟨ar, cap, kq0, hsq0, hlc, hcap, hin0⟩ := h.B
  obtain ⟨N, hN⟩ : ∃ n, Y.L.length = n := ⟨_, rfl⟩
  have hN15 : N ≤ 15 := by rw [← hN]; exact g.count
  have hqg : q ≠ gm := kq0.ne h.M.row (by decide)
  have hqm : q ≠ mk := kq0.ne h.M.head (by decide)
  obtain ⟨P, hP⟩ : ∃ P, Y.pl = P := ⟨_, rfl⟩
  obtain ⟨F, hF⟩ : ∃ F, fromS P a = F := ⟨_, rfl⟩
  have hFe : P * 16384 + a * 1024 = F := hF
  rw [hP] at c0 hpl
  have w1' : IntKind.u64.wrap (P : Int) = (P : Int) := IntWalk.u64_in _ ⟨by omega, by omega⟩
  have w2' : IntKind.u64.wrap (a : Int) = (a : Int) := IntWalk.u64_in _ ⟨by omega, by omega⟩
  have w3' : IntKind.u64.wrap ((P : Int) * 16384) = (P : Int) * 16384 := IntWalk.u64_in _ ⟨by omega, by omega⟩
  have w4' : IntKind.u64.wrap ((a : Int) * 1024) = (a : Int) * 1024 := IntWalk.u64_in _ ⟨by omega, by omega⟩
  have eF : (P : Int) * 16384 + (a : Int) * 1024 = (F : Int) := by omega
  have w5' : IntKind.u64.wrap (F : Int) = (F : Int) := IntWalk.u64_in _ ⟨by omega, by omega⟩
  rw [hN] at hlc
  have HX := Lib.hid (And.intro hN (And.intro hP hF))
  have H0 := Lib.hid h; have HG := Lib.hid g; have HZ := Lib.hid hZ; have KQ := Lib.hid kq0; have SQ0 := Lib.hid hsq0; have HIN := Lib.hid hin0; have HF := Lib.hid hf; have NE := Lib.hid (And.intro hqg hqm)
  clear h hZ g hf ht e1 e2 e3 hl kq0 hsq0 hin0 hN hP hF hFe a3 hqg hqm
  go_enter Tryd.func51, Tryd.ntmps51
  go_wp2_with fail
  refine HT.out.mono ?_; rintro e w1 ⟨rfl, hm, hu⟩
  have M1 := Lib.hid hm; have U1 := Lib.hid hu
  have c0 : w1.cell? ⟨q, 0, none⟩ = some (.int .i64 (P : Int)) := by rw [← HX.out.2.1]; exact (KQ.out.upd hu NE.out.1).cell 0
  have c2 : ∀ x : Obj, ∀ y : Obj, ((w1.alloc x).alloc y).cell? ⟨q, 2, none⟩ = some (.slice ar N cap) := fun x y => by rw [← HX.out.1]; exact (((KQ.out.upd hu NE.out.1).alloc x).alloc y).cell 2
  have C2 := Lib.hid c2
  clear hm hu c1 c2
  go_upto_region 6 with fail
  generalize hW : (w1.alloc (.cells #[.int .u64 (F : Int), .int .u64 (s : Int), .int .i64 (bl : Int), .int .i64 0, .int .i64 0, .slice none 0 0, .slice none 0 0, .slice none 0 0, .int .u64 0, .int .i64 0] 110)).alloc (.cells #[.pointer (some ⟨w1.heap.size, 0, none⟩), .int .i64 cls, .int .i64 (a : Int), .int .i64 (n : Int)] 54) = w2
  obtain ⟨k1, k2, k3, k4⟩ := two_newD (f := fun x => #[.pointer (some ⟨x, 0, none⟩), .int .i64 cls, .int .i64 (a : Int), .int .i64 (n : Int)]) hW
  have c2 : w2.cell? ⟨q, 2, none⟩ = some (.slice ar N cap) := hW ▸ C2.out _ _
  obtain ⟨pp, hpp⟩ : ∃ pp, w1.heap.size = pp := ⟨_, rfl⟩
  have k4' := k4
  rw [hpp] at k1 k2 k4 ⊢
  obtain ⟨op, hop⟩ : ∃ op, pp + 1 = op := ⟨_, rfl⟩
  rw [hop] at k2 ⊢
  have s1 := U1.out.size
  have ROW : Hid (∀ w', Below w2.heap.size w2 w' → Seq Elem.ptrs w' (.slice ar Y.L.length cap) (Y.L.map opD) ∧ (∀ o ∈ Y.L, w'.cell? ⟨o.op, 2, none⟩ = some (.int .i64 (o.lo : Int))) ∧ w'.cell? ⟨q, 2, none⟩ = some (.slice ar N cap) ∧ w'.frozen? ⟨q, 2, none⟩ = false) := Lib.hid fun w' hb => by
    have u : Upd (fun b => b = gm) w w' := (U1.out.trans ((updFalse_of k3).mono fun _ x => x.elim)).trans ((updFalse_of hb).mono fun _ x => x.elim)
    refine ⟨SQ0.out.upd u fun b hb e => (HIN.out b hb).2.1 (.inr (.inr (.inl e))), fun o ho => ?_, ?_, (KQ.out.upd u NE.out.1).frozen 2⟩
    · exact ((H0.out.own o ho).upd u ((H0.out.own o ho).ne H0.out.M.row (by decide))).cell 2
    · rw [← HX.out.1]; exact (KQ.out.upd u NE.out.1).cell 2
  have PRE : Hid (([] : List OwR).length ≤ 0) := Lib.hid (Nat.le_refl _)
  have J0 := Lib.hid (show AddR w2 [] Y.L (loP a) (.slice none 0 0) (.int .i64 0) w2 from ⟨0, Nat.zero_le _, rfl, Vec.nil _, (by intro b hb; cases hb), Below.refl _ _⟩)
  have KO := Lib.hid k2; have KP := Lib.hid k1; have BW := Lib.hid k3; have SZ := Lib.hid (And.intro k4 (And.intro hop (And.intro hpp s1)))
  clear hW k1 k2 k3 k4 k4' hpp hop s1 w1' w2' w3' w4' w5' eF c0
  go_wp2
  clear c2
  go_loopw [16, 59] (fun v i wr => AddR w2 [] Y.L (loP a) v i wr) (fun _ i _ => N - (intOf i).toNat)
  case atStart => exact J0.out
  case round =>
    clear J0
    obtain ⟨t, ht, rfl, hv, hin, hb⟩ := hrel
    rw [HX.out.1] at ht
    obtain ⟨av, cv, rfl, hc1, hc2⟩ := hv.slice'
    have hlen : (([] ++ (Y.L.take t).filter (loP a)).map opD).length ≤ 40 := by
      have h1 := filt_len Y.L t (loP a)
      have h2 := PRE.out
      rw [List.length_map, List.length_append]
      have h3 := HX.out.1
      omega
    obtain ⟨m, hm⟩ : ∃ m, (([] ++ (Y.L.take t).filter (loP a)).map opD).length = m := ⟨_, rfl⟩
    rw [hm] at hv hin hc1 hlen ⊢
    have V := Lib.hid hv; have IN := Lib.hid hin; have B := Lib.hid hb; have HM := Lib.hid hm
    clear hv hin hm
    by_cases htn : t < N
    · have htl : t < Y.L.length := by rw [HX.out.1]; exact htn
      obtain ⟨o, hoe⟩ : ∃ o, Y.L[t]? = some o := ⟨Y.L[t]'htl, List.getElem?_eq_getElem _⟩
      have hoY : o ∈ Y.L := List.mem_of_getElem? hoe
      obtain ⟨b, off, ea, d0⟩ := ptr_at (ROW.out wr hb).1 hoe
      have o2 := (ROW.out wr hb).2.1 o hoY
      obtain ⟨oo, hoo⟩ : ∃ x, o.op = x := ⟨_, rfl⟩
      obtain ⟨lo, hlo⟩ : ∃ x, o.lo = x := ⟨_, rfl⟩
      rw [hoo] at d0 o2
      rw [hlo] at o2
      subst ea
      have t1 : decide ((t : Int) < (N : Int)) = true := decide_eq_true (by omega)
      have t1' : decide (t < N) = true := decide_eq_true htn
      have p0 : (0 : Int) ≤ (t : Int) := by omega
      have p1 : (t : Int) < (N : Int) := by omega
      have ej : (((t + 1 : Nat)) : Int) = (t : Int) + 1 := by omega
      have hsz := hb.size
      by_cases hla : lo < a
      · have t2 : decide ((lo : Int) < (a : Int)) = true := decide_eq_true (by omega)
        have t2' : decide (lo < a) = true := decide_eq_true hla
        have hfy := Lib.hid (filt_yes (p := loP a) hoe (decide_eq_true (by omega)))
        have HOO := Lib.hid hoo
        clear hb hoe hoY hoo hlo hla
        go_wp2_with (at_builtin; refine wpList_append_vec (E := Elem.ptrs) rfl (.tmp 69) (.tmp 71) 60 rfl 40 i0 (.pointer none) 8 Tryd.underlying60 hi hz0 hz1 hz2 rfl (.slice av m cv) (.slice (some ⟨wr.heap.size, 0, none⟩) 1 1) (([] ++ (Y.L.take t).filter (loP a)).map opD) [some ⟨oo, 0, none⟩] rfl rfl (V.out.alloc _) (ptrD_one _ _ oo _ rfl) ?_ ?_ ?_; (rw [HM.out]; simp only [maxLen, List.length_cons, List.length_nil]; omega); (rw [HM.out]; simp only [List.length_cons, List.length_nil]; omega); intro v2 w9 hv2 hu2 hin2; have BZ := Lib.hid (vec_below (B.out.alloc hsz _) (Nat.le_trans hsz (by simp)) IN.out hu2); have N2 := Lib.hid hin2; have V2 := Lib.hid hv2; clear hv2 hu2 hin2)
        go_roundw
        case rel =>
          refine ⟨t + 1, by rw [HX.out.1]; omega, by rw [ej], ?_, fun k hk => ?_, BZ.out⟩
          · rw [hfy.out, ← List.append_assoc, List.map_append]
            have e1 : [o].map opD = [some (⟨oo, 0, none⟩ : Addr)] := by rw [← HOO.out]; rfl
            rw [e1]; exact V2.out
          · rcases N2.out k hk with z | z
            · exact IN.out k z
            · simp at z; omega
        case measure => simp [intOf]; omega
      · have t2 : decide ((lo : Int) < (a : Int)) = false := decide_eq_false (by omega)
        have t2' : decide (lo < a) = false := decide_eq_false hla
        have hfn := Lib.hid (filt_no (p := loP a) hoe (decide_eq_false (by omega)))
        clear hb hoe hoY hoo hlo hla
        go_wp2
        go_roundw
        case rel => exact ⟨t + 1, by rw [HX.out.1]; omega, by rw [ej], by rw [hfn.out]; exact V.out, IN.out, B.out⟩
        case measure => simp [intOf]; omega
    · obtain rfl : t = N := by omega
      have t1 : decide ((t : Int) < (t : Int)) = false := decide_eq_false (by omega)
      have hfull : (Y.L.take t).filter (loP a) = Y.L.filter (loP a) := by rw [← HX.out.1, List.take_length]
      have HFU := Lib.hid hfull
      have hsz := hb.size
      clear hfull hb
      go_wp2_with (at_builtin; refine wpList_append_vec (E := Elem.ptrs) rfl (.tmp 74) (.tmp 76) 60 rfl 40 i0 (.pointer none) 8 Tryd.underlying60 hi hz0 hz1 hz2 rfl (.slice av m cv) (.slice (some ⟨wr.heap.size, 0, none⟩) 1 1) (([] ++ (Y.L.take t).filter (loP a)).map opD) [some ⟨op, 0, none⟩] rfl rfl (V.out.alloc _) (ptrD_one _ _ op _ rfl) ?_ ?_ ?_; (rw [HM.out]; simp only [maxLen, List.length_cons, List.length_nil]; omega); (rw [HM.out]; simp only [List.length_cons, List.length_nil]; omega); intro v2 w9 hv2 hu2 hin2; have BZ := Lib.hid (vec_below (B.out.alloc hsz _) (Nat.le_trans hsz (by simp)) IN.out hu2); have N2 := Lib.hid hin2; have V2 := Lib.hid hv2; clear hv2 hu2 hin2; have c2 : w9.cell? ⟨q, 2, none⟩ = some (.slice ar t cap) := (ROW.out _ BZ.out).2.2.1)
      obtain ⟨PR, hPR⟩ : ∃ PR, Y.L.filter (loP a) ++ [(⟨op, pp, cls, a, n, newPG F s bl⟩ : OwR)] = PR := ⟨_, rfl⟩
      have hV : Vec Elem.ptrs w9 v2 (PR.map opD) := by
        have := V2.out
        rw [HFU.out, List.nil_append] at this
        rw [← hPR, List.map_append]
        exact this
      have PRE : Hid (PR.length ≤ 16) := Lib.hid (by
        rw [← hPR, List.length_append]
        have h3 := List.length_filter_le (loP a) Y.L
        have h4 := HX.out.1
        simp only [List.length_cons, List.length_nil]
        omega)
      have J1 := Lib.hid (show AddR w2 PR Y.L (hiP a) v2 (.int .i64 0) w9 from ⟨0, Nat.zero_le _, rfl, by rw [List.take_zero, List.filter_nil, List.append_nil]; exact hV, fun k hk => by
        rcases N2.out k hk with z | z
        · exact IN.out k z
        · simp at z; omega, BZ.out⟩)
      have HPR := Lib.hid hPR
      clear hV hPR c2 hsz V2 N2 BZ V IN B HM HFU hc1 hc2 hlen t1
      obtain ⟨N, hNN⟩ : ∃ x, x = t := ⟨_, rfl⟩
      subst hNN
      clear ht htn
      go_loopw [16, 83] (fun v i wr => AddR w2 PR Y.L (hiP a) v i wr) (fun _ i _ => N - (intOf i).toNat)
      case atStart => exact J1.out
      case round =>
        clear J1
        obtain ⟨t, ht, rfl, hv, hin, hb⟩ := hrel
        rw [HX.out.1] at ht
        obtain ⟨av, cv, rfl, hc1, hc2⟩ := hv.slice'
        have hlen : ((PR ++ (Y.L.take t).filter (hiP a)).map opD).length ≤ 40 := by
          have h1 := filt_len Y.L t (hiP a)
          have h2 := PRE.out
          rw [List.length_map, List.length_append]
          have h3 := HX.out.1
          omega
        obtain ⟨m, hm⟩ : ∃ m, ((PR ++ (Y.L.take t).filter (hiP a)).map opD).length = m := ⟨_, rfl⟩
        rw [hm] at hv hin hc1 hlen ⊢
        have V := Lib.hid hv; have IN := Lib.hid hin; have B := Lib.hid hb; have HM := Lib.hid hm
        clear hv hin hm
        by_cases htn : t < N
        · have htl : t < Y.L.length := by rw [HX.out.1]; exact htn
          obtain ⟨o, hoe⟩ : ∃ o, Y.L[t]? = some o := ⟨Y.L[t]'htl, List.getElem?_eq_getElem _⟩
          have hoY : o ∈ Y.L := List.mem_of_getElem? hoe
          obtain ⟨b, off, ea, d0⟩ := ptr_at (ROW.out wr hb).1 hoe
          have o2 := (ROW.out wr hb).2.1 o hoY
          obtain ⟨oo, hoo⟩ : ∃ x, o.op = x := ⟨_, rfl⟩
          obtain ⟨lo, hlo⟩ : ∃ x, o.lo = x := ⟨_, rfl⟩
          rw [hoo] at d0 o2
          rw [hlo] at o2
          subst ea
          have t1 : decide ((t : Int) < (N : Int)) = true := decide_eq_true (by omega)
          have t1' : decide (t < N) = true := decide_eq_true htn
          have p0 : (0 : Int) ≤ (t : Int) := by omega
          have p1 : (t : Int) < (N : Int) := by omega
          have ej : (((t + 1 : Nat)) : Int) = (t : Int) + 1 := by omega
          have hsz := hb.size
          by_cases hla : a < lo
          · have t2 : decide ((a : Int) < (lo : Int)) = true := decide_eq_true (by omega)
            have t2' : decide (a < lo) = true := decide_eq_true hla
            have hfy := Lib.hid (filt_yes (p := hiP a) hoe (decide_eq_true (by omega)))
            have HOO := Lib.hid hoo
            clear hb hoe hoY hoo hlo hla
            go_wp2_with (at_builtin; refine wpList_append_vec (E := Elem.ptrs) rfl (.tmp 93) (.tmp 95) 60 rfl 40 i0 (.pointer none) 8 Tryd.underlying60 hi hz0 hz1 hz2 rfl (.slice av m cv) (.slice (some ⟨wr.heap.size, 0, none⟩) 1 1) ((PR ++ (Y.L.take t).filter (hiP a)).map opD) [some ⟨oo, 0, none⟩] rfl rfl (V.out.alloc _) (ptrD_one _ _ oo _ rfl) ?_ ?_ ?_; (rw [HM.out]; simp only [maxLen, List.length_cons, List.length_nil]; omega); (rw [HM.out]; simp only [List.length_cons, List.length_nil]; omega); intro v2 w9 hv2 hu2 hin2; have BZ := Lib.hid (vec_below (B.out.alloc hsz _) (Nat.le_trans hsz (by simp)) IN.out hu2); have N2 := Lib.hid hin2; have V2 := Lib.hid hv2; clear hv2 hu2 hin2)
            go_roundw
            case rel =>
              refine ⟨t + 1, by rw [HX.out.1]; omega, by rw [ej], ?_, fun k hk => ?_, BZ.out⟩
              · rw [hfy.out, ← List.append_assoc, List.map_append]
                have e1 : [o].map opD = [some (⟨oo, 0, none⟩ : Addr)] := by rw [← HOO.out]; rfl
                rw [e1]; exact V2.out
              · rcases N2.out k hk with z | z
                · exact IN.out k z
                · simp at z; omega
            case measure => simp [intOf]; omega
          · have t2 : decide ((a : Int) < (lo : Int)) = false := decide_eq_false (by omega)
            have t2' : decide (a < lo) = false := decide_eq_false hla
            have hfn := Lib.hid (filt_no (p := hiP a) hoe (decide_eq_false (by omega)))
            clear hb hoe hoY hoo hlo hla
            go_wp2
            go_roundw
            case rel => exact ⟨t + 1, by rw [HX.out.1]; omega, by rw [ej], by rw [hfn.out]; exact V.out, IN.out, B.out⟩
            case measure => simp [intOf]; omega
        · obtain rfl : t = N := by omega
          have t1 : decide ((t : Int) < (t : Int)) = false := decide_eq_false (by omega)
          have hfull : (Y.L.take t).filter (hiP a) = Y.L.filter (hiP a) := by rw [← HX.out.1, List.take_length]
          have HFU := Lib.hid hfull
          have c2 := (ROW.out _ hb).2.2.1
          have f2 := (ROW.out _ hb).2.2.2
          clear hfull hb
          go_wp2
          go_ret2
          obtain ⟨z1, z2, z3, z4⟩ := SZ.out
          obtain ⟨x1, x2, x3⟩ := HX.out
          subst x2
          subst x3
          have v := V.out
          rw [HFU.out, ← HPR.out] at v
          obtain ⟨j1, j2⟩ := add_end H0.out HZ.out U1.out M1.out BW.out z2 z3 z1 KO.out KP.out B.out v IN.out hc1 hc2
          exact ⟨op, pp, rfl, j1, by omega, by omega, j2⟩
end Go.Proofs.YtomepdgddpajoaaDoor
/- The document's own segment: Page, Big, Alloc of a page: contracts. -/
namespace Go.Proofs.YtomepdgddpajoaaDoor
open Go.RowKit ListMath PageMath GeoMath SegMath ClassMath
set_option linter.unusedVariables false
set_option maxRecDepth 100000

section
variable {Z : Nat → Prop} {w w' : World} {q mk gm : Nat} {Y : SG}
def MoreD (Z : Nat → Prop) (w : World) (q mk gm : Nat) (Y : SG) (cls : Int) (a n bl s : Nat) (e : Ending) (w' : World) : Prop :=
  ∃ op pp, e = .returned (.tuple #[.pointer (some ⟨op, 0, none⟩), .int .i64 0]) ∧ RD Z w' q mk gm (Y.add op pp cls a n bl s) ∧ w.heap.size ≤ op ∧ w.heap.size ≤ pp ∧ Upd (fun b => b = q ∨ b = gm) w w'
theorem moreD_since {w1 : World} (b : Below w.heap.size w w1) {cls : Int} {a n bl s : Nat} {e : Ending} (h : MoreD Z w1 q mk gm Y cls a n bl s e w') : MoreD Z w q mk gm Y cls a n bl s e w' := by
  obtain ⟨op, pp, k1, k2, k3, k4, k5⟩ := h
  have hs := b.size
  exact ⟨op, pp, k1, k2, by omega, by omega, ((updFalse_of b).mono fun _ x => x.elim).trans k5⟩
theorem rd_page_bad (w : World) (q : Nat) {n : Int} (hn : n < 0 ∨ 12 ≤ n) : Calls Tryd.prog 26 #[.pointer (some ⟨q, 0, none⟩), .int .i64 n] w fun e w' => e = .returned (.tuple #[.pointer none, .int .i64 2]) ∧ Below w.heap.size w w' := by
  have hc : (decide (n < 0) = true) ∨ (decide (n < 0) = false ∧ decide ((11 : Int) < n) = true) := by
    by_cases h0 : n < 0
    · exact .inl (decide_eq_true h0)
    · exact .inr ⟨decide_eq_false h0, decide_eq_true (by omega)⟩
  clear hn
  rcases hc with t1 | ⟨t1, t2⟩
  all_goals
    go_enter Tryd.func26, Tryd.ntmps26
    go_wp2
    go_ret2
    exact ⟨rfl, Below.refl _ _⟩
theorem rd_page_full (h : RD Z w q mk gm Y) (g : GoodG Y) {n : Nat} (hn : n < 12) (hlow : MarkMath.low Y.K (slicesAt n) = none) : Calls Tryd.prog 26 #[.pointer (some ⟨q, 0, none⟩), .int .i64 (n : Int)] w fun e w' => e = .returned (.tuple #[.pointer none, .int .i64 4]) ∧ Below w.heap.size w w' := by
  have t1 : decide ((n : Int) < 0) = false := decide_eq_false (by omega)
  have t2 : decide ((11 : Int) < (n : Int)) = false := decide_eq_false (by omega)
  have H1 := Lib.hid (fun w => ref_slices w n hn)
  have H2 := Lib.hid (fun w => ref_blocks w n hn)
  have H3 := Lib.hid (fun w => ref_sizes w)
  have sb := slices_bounds hn
  have H4 := Lib.hid (fun w' (b : Below w.heap.size w w') => rd_add_full (h.grew b) g sb.1 (by omega) hlow (n : Int) ((blocksAt n : Nat) : Int) (sizeAt n))
  have HC := Lib.hid (fun (w' : World) (gg : Nat) (hs : SizesAt w' gg) => hs.cell hn)
  obtain ⟨m, hm⟩ : ∃ m, slicesAt n = m := ⟨_, rfl⟩
  obtain ⟨s, hs⟩ : ∃ s, sizeAt n = s := ⟨_, rfl⟩
  obtain ⟨b, hb⟩ : ∃ b, blocksAt n = b := ⟨_, rfl⟩
  rw [hm] at H1 H4
  rw [hs] at H4 HC
  rw [hb] at H2 H4
  have p0 : (0 : Int) ≤ (n : Int) := by omega
  have p1 : (n : Int) < 12 := by omega
  clear h g hlow sb hm hs hb
  go_enter Tryd.func26, Tryd.ntmps26
  go_wp2_with fail
  refine (H1.out _).mono ?_; rintro e w1 ⟨rfl, hb⟩
  have B1 := Lib.hid hb
  clear hb
  go_wp2_with fail
  refine (H2.out _).mono ?_; rintro e w2 ⟨rfl, hb⟩
  have B2 := Lib.hid (below_then B1.out B1.out.size hb)
  clear hb
  go_wp2_with fail
  refine (H3.out _).mono ?_; rintro e w3 ⟨gg, rfl, hsz, _, hb⟩
  have B3 := Lib.hid (below_then B2.out B2.out.size hb)
  have d0 := HC.out _ _ hsz
  clear hb hsz
  go_wp2_with fail
  refine (H4.out _ B3.out).mono ?_; rintro e w4 ⟨rfl, hb⟩
  have B4 := Lib.hid (below_then B3.out B3.out.size hb)
  clear hb d0
  go_wp2
  go_ret2
  exact ⟨rfl, B4.out⟩
theorem rd_page (h : RD Z w q mk gm Y) (hZ : ∀ b, Z b → b < w.heap.size) (g : GoodG Y) (hpl : Y.pl ≤ 3) {n a : Nat} (hn : n < 12) (hlow : MarkMath.low Y.K (slicesAt n) = some a) : Calls Tryd.prog 26 #[.pointer (some ⟨q, 0, none⟩), .int .i64 (n : Int)] w (MoreD Z w q mk gm Y (n : Int) a (slicesAt n) (blocksAt n) (sizeAt n)) := by
  have t1 : decide ((n : Int) < 0) = false := decide_eq_false (by omega)
  have t2 : decide ((11 : Int) < (n : Int)) = false := decide_eq_false (by omega)
  have H1 := Lib.hid (fun w => ref_slices w n hn)
  have H2 := Lib.hid (fun w => ref_blocks w n hn)
  have H3 := Lib.hid (fun w => ref_sizes w)
  have sb := slices_bounds hn
  have H4 : Hid (∀ w', Below w.heap.size w w' → Calls Tryd.prog 51 #[.pointer (some ⟨q, 0, none⟩), .int .i64 (n : Int), .int .i64 ((slicesAt n : Nat) : Int), .int .i64 ((blocksAt n : Nat) : Int), .int .u64 ((sizeAt n : Nat) : Int)] w' (MoreD Z w q mk gm Y (n : Int) a (slicesAt n) (blocksAt n) (sizeAt n))) := Lib.hid fun w' b => (rd_add (h.grew b) (fun x hx => Nat.lt_of_lt_of_le (hZ x hx) b.size) g hpl sb.1 (by omega) hlow).mono fun e w2 k => moreD_since b k
  have HC := Lib.hid (fun (w' : World) (gg : Nat) (hs : SizesAt w' gg) => hs.cell hn)
  obtain ⟨m, hm⟩ : ∃ m, slicesAt n = m := ⟨_, rfl⟩
  obtain ⟨s, hs⟩ : ∃ s, sizeAt n = s := ⟨_, rfl⟩
  obtain ⟨b, hb⟩ : ∃ b, blocksAt n = b := ⟨_, rfl⟩
  rw [hm] at H1 H4 ⊢
  rw [hs] at H4 HC ⊢
  rw [hb] at H2 H4 ⊢
  have p0 : (0 : Int) ≤ (n : Int) := by omega
  have p1 : (n : Int) < 12 := by omega
  clear h g hlow sb hm hs hb hZ
  go_enter Tryd.func26, Tryd.ntmps26
  go_wp2_with fail
  refine (H1.out _).mono ?_; rintro e w1 ⟨rfl, hb⟩
  have B1 := Lib.hid hb
  clear hb
  go_wp2_with fail
  refine (H2.out _).mono ?_; rintro e w2 ⟨rfl, hb⟩
  have B2 := Lib.hid (below_then B1.out B1.out.size hb)
  clear hb
  go_wp2_with fail
  refine (H3.out _).mono ?_; rintro e w3 ⟨gg, rfl, hsz, _, hb⟩
  have B3 := Lib.hid (below_then B2.out B2.out.size hb)
  have d0 := HC.out _ _ hsz
  clear hb hsz
  go_wp2_with fail
  refine (H4.out _ B3.out).mono ?_; rintro e w4 hk
  have K := Lib.hid hk
  obtain ⟨op, pp, rfl, _⟩ := hk
  clear d0
  go_wp2
  go_ret2
  exact K.out
theorem rd_big_bad (w : World) (q : Nat) {n : Int} (hn : n < 1 ∨ 15 < n) : Calls Tryd.prog 16 #[.pointer (some ⟨q, 0, none⟩), .int .i64 n] w fun e w' => e = .returned (.tuple #[.pointer none, .int .i64 2]) ∧ Below w.heap.size w w' := by
  have hc : (decide (n < 1) = true) ∨ (decide (n < 1) = false ∧ decide ((15 : Int) < n) = true) := by
    by_cases h0 : n < 1
    · exact .inl (decide_eq_true h0)
    · exact .inr ⟨decide_eq_false h0, decide_eq_true (by omega)⟩
  clear hn
  rcases hc with t1 | ⟨t1, t2⟩
  all_goals
    go_enter Tryd.func16, Tryd.ntmps16
    go_wp2
    go_ret2
    exact ⟨rfl, Below.refl _ _⟩
theorem rd_big_full (h : RD Z w q mk gm Y) (g : GoodG Y) {n : Nat} (h1 : 1 ≤ n) (h2 : n ≤ 15) (hlow : MarkMath.low Y.K n = none) : Calls Tryd.prog 16 #[.pointer (some ⟨q, 0, none⟩), .int .i64 (n : Int)] w fun e w' => e = .returned (.tuple #[.pointer none, .int .i64 4]) ∧ Below w.heap.size w w' := by
  have t1 : decide ((n : Int) < 1) = false := decide_eq_false (by omega)
  have t2 : decide ((15 : Int) < (n : Int)) = false := decide_eq_false (by omega)
  obtain ⟨m, hm⟩ : ∃ m, n * 1024 = m := ⟨_, rfl⟩
  have H := Lib.hid (rd_add_full h g h1 (by omega) hlow (-1) 1 m)
  have w1' : IntKind.u64.wrap (n : Int) = (n : Int) := IntWalk.u64_in _ ⟨by omega, by omega⟩
  have em : (n : Int) * 1024 = (m : Int) := by omega
  have w2' : IntKind.u64.wrap (m : Int) = (m : Int) := IntWalk.u64_in _ ⟨by omega, by omega⟩
  clear h g hlow h1 h2 hm
  go_enter Tryd.func16, Tryd.ntmps16
  go_wp2_with fail
  refine H.out.mono ?_; rintro e w1 ⟨rfl, hb⟩
  have B := Lib.hid hb
  clear hb
  go_wp2
  go_ret2
  exact ⟨rfl, B.out⟩
theorem rd_big (h : RD Z w q mk gm Y) (hZ : ∀ b, Z b → b < w.heap.size) (g : GoodG Y) (hpl : Y.pl ≤ 3) {n a : Nat} (h1 : 1 ≤ n) (h2 : n ≤ 15) (hlow : MarkMath.low Y.K n = some a) : Calls Tryd.prog 16 #[.pointer (some ⟨q, 0, none⟩), .int .i64 (n : Int)] w (MoreD Z w q mk gm Y (-1) a n 1 (n * 1024)) := by
  have t1 : decide ((n : Int) < 1) = false := decide_eq_false (by omega)
  have t2 : decide ((15 : Int) < (n : Int)) = false := decide_eq_false (by omega)
  have H : Hid (Calls Tryd.prog 51 #[.pointer (some ⟨q, 0, none⟩), .int .i64 (-1), .int .i64 (n : Int), .int .i64 1, .int .u64 ((n * 1024 : Nat) : Int)] w (MoreD Z w q mk gm Y (-1) a n 1 (n * 1024))) := Lib.hid (rd_add (bl := 1) h hZ g hpl h1 h2 hlow)
  obtain ⟨m, hm⟩ : ∃ m, n * 1024 = m := ⟨_, rfl⟩
  rw [hm] at H ⊢
  have w1' : IntKind.u64.wrap (n : Int) = (n : Int) := IntWalk.u64_in _ ⟨by omega, by omega⟩
  have em : (n : Int) * 1024 = (m : Int) := by omega
  have w2' : IntKind.u64.wrap (m : Int) = (m : Int) := IntWalk.u64_in _ ⟨by omega, by omega⟩
  clear h g hlow h1 h2 hm hZ
  go_enter Tryd.func16, Tryd.ntmps16
  go_wp2_with fail
  refine H.out.mono ?_; rintro e w4 hk
  have K := Lib.hid hk
  obtain ⟨op, pp, rfl, _⟩ := hk
  go_wp2
  go_ret2
  exact K.out
/-! ### A page's Alloc -/
theorem DN.put {S : PG} {pp b : Nat} : DN q mk gm (Y.put pp S) b ↔ DN q mk gm Y b := by
  unfold DN
  constructor
  · rintro (h | h | h | ⟨x, hx, h⟩)
    · exact .inl h
    · exact .inr (.inl h)
    · exact .inr (.inr (.inl h))
    · obtain ⟨y, hy, rfl⟩ := put_mem.1 hx
      obtain ⟨e1, e2, e3, e4, e5⟩ := put_lo y pp S
      rw [e3, e4] at h
      exact .inr (.inr (.inr ⟨y, hy, h⟩))
  · rintro (h | h | h | ⟨y, hy, h⟩)
    · exact .inl h
    · exact .inr (.inl h)
    · exact .inr (.inr (.inl h))
    · refine .inr (.inr (.inr ⟨_, put_mem.2 ⟨y, hy, rfl⟩, ?_⟩))
      obtain ⟨e1, e2, e3, e4, e5⟩ := put_lo y pp S
      rw [e3, e4]; exact h
theorem RD.put (h : RD Z w q mk gm Y) {o : OwR} (ho : o ∈ Y.L) {S : PG} (k : RP (fun b => (Z b ∨ DN q mk gm Y b) ∧ b ≠ o.pp) w' o.pp S []) (u : Upd (fun b => b = o.pp) w w') : RD Z w' q mk gm (Y.put o.pp S) := by
  obtain ⟨a, cap, kq, h1, h2, h3, h4⟩ := h.B
  obtain ⟨vF, vG, vP, kp⟩ := h.p ho
  have hD : ∀ b, DN q mk gm (Y.put o.pp S) b ↔ DN q mk gm Y b := fun b => DN.put
  have hl : (Y.put o.pp S).L.length = Y.L.length := List.length_map ..
  have hm : (Y.put o.pp S).L.map opD = Y.L.map opD := by
    show (Y.L.map _).map opD = _
    rw [List.map_map]
    exact List.map_congr_left fun x _ => by show opD _ = opD x; unfold opD; rw [(put_lo x o.pp S).2.2.1]
  have hoD : DN q mk gm Y o.pp := .inr (.inr (.inr ⟨o, ho, .inr rfl⟩))
  have hset : (fun b => (Z b ∨ DN q mk gm (Y.put o.pp S) b) ∧ b ≠ o.pp) = (fun b => (Z b ∨ DN q mk gm Y b) ∧ b ≠ o.pp) := funext fun b => propext ⟨fun x => ⟨x.1.imp id (hD b).1, x.2⟩, fun x => ⟨x.1.imp id (hD b).2, x.2⟩⟩
  refine ⟨⟨a, cap, ?_, ?_, by rw [hl]; exact h2, h3, fun b hb => ?_⟩, h.M.upd u (fun e => ?_) (fun e => ?_), fun x hx => ?_, fun x hx => ?_, ?_, fun b hb => h.sep b ((hD b).1 hb)⟩
  · rw [hl]; exact kq.upd u (kq.ne kp (by decide))
  · rw [hl, hm]; exact h1.upd u fun b hb e => (h4 b hb).2.1 (e ▸ hoD)
  · rw [hl] at hb
    exact ⟨(h4 b hb).1, fun x => (h4 b hb).2.1 ((hD b).1 x), Nat.lt_of_lt_of_le (h4 b hb).2.2 u.size⟩
  · exact h.M.head.ne kp (by decide) e
  · exact Blk.ne h.M.row kp (by decide) e
  · obtain ⟨y, hy, rfl⟩ := put_mem.1 hx
    obtain ⟨e1, e2, e3, e4, e5⟩ := put_lo y o.pp S
    have := (h.own y hy).upd u ((h.own y hy).ne kp (by decide))
    unfold ownA
    rw [e1, e2, e3, e4, e5]
    exact this
  · obtain ⟨y, hy, rfl⟩ := put_mem.1 hx
    obtain ⟨e1, e2, e3, e4, e5⟩ := put_lo y o.pp S
    by_cases e : y.pp = o.pp
    · rw [if_pos e]
      show RP (fun b => (Z b ∨ DN q mk gm (Y.put o.pp S) b) ∧ b ≠ y.pp) w' y.pp S []
      rw [e, hset]; exact k
    · rw [if_neg e]
      refine ((h.pg y hy).re (A' := fun b => (Z b ∨ DN q mk gm (Y.put o.pp S) b) ∧ b ≠ y.pp) fun b hb => .inl ⟨hb.1.imp id (hD b).1, hb.2⟩).upd u fun b hb => ?_
      subst hb
      exact ⟨.inr ((hD _).2 hoD), fun x => e x.symm⟩
  · show ((Y.L.map _).map _).Nodup
    rw [List.map_map]
    have e : Y.L.map ((fun o => o.pp) ∘ fun x => if x.pp = o.pp then { x with P := S } else x) = Y.L.map fun o => o.pp := List.map_congr_left fun x _ => (put_lo x o.pp S).2.2.2.1
    rw [e]; exact h.pps
theorem rd_alloc (h : RD Z w q mk gm Y) (hZ : ∀ b, Z b → b < w.heap.size) {o : OwR} (ho : o ∈ Y.L) (f : FitP o.P) (hx : ∀ x ∈ (refill o.P).F, U64B x) :
    Calls Tryd.prog 22 #[.pointer (some ⟨o.pp, 0, none⟩)] w fun e w' => e = .returned (.tuple #[.int .u64 ((allocP o.P).2.1 : Int), .int .i64 (allocP o.P).2.2]) ∧ RD Z w' q mk gm (Y.put o.pp (allocP o.P).1) ∧ Upd (fun b => b = o.pp) w w' :=
  (refp_alloc w (h.pg o ho) f hx fun b hb => by rcases hb.1 with x | x; exact hZ b x; exact h.lt x).mono fun e w' ⟨k1, k2, k3⟩ => ⟨k1, h.put ho k2 k3, k3⟩
end
end Go.Proofs.YtomepdgddpajoaaDoor
/- A segment of the law's own, and beside it the document's: both side by side. -/
namespace Go.Proofs.YtomepdgddpajoaaDoor
open Go.RowKit ListMath PageMath GeoMath SegMath ClassMath
set_option linter.unusedVariables false
set_option maxRecDepth 100000

/-- What both have in common of a page. -/
def sk (o : OwR) : Int × Nat × Nat × PG := (o.cls, o.lo, o.wd, o.P)
structure SameD (X Y : SG) : Prop where
  pl : X.pl = Y.pl
  K : X.K = Y.K
  L : X.L.map sk = Y.L.map sk
theorem sk_parts {o o' : OwR} (h : sk o = sk o') : o.cls = o'.cls ∧ o.lo = o'.lo ∧ o.wd = o'.wd ∧ o.P = o'.P := by
  unfold sk at h
  simp only [Prod.mk.injEq] at h
  exact h
section
variable {X Y : SG}
theorem SameD.symm (s : SameD X Y) : SameD Y X := ⟨s.pl.symm, s.K.symm, s.L.symm⟩
theorem SameD.len (s : SameD X Y) : X.L.length = Y.L.length := by
  have := congrArg List.length s.L
  rwa [List.length_map, List.length_map] at this
theorem SameD.at (s : SameD X Y) {t : Nat} {o : OwR} (h : X.L[t]? = some o) : ∃ o', Y.L[t]? = some o' ∧ sk o = sk o' := by
  have h1 : (X.L.map sk)[t]? = some (sk o) := by rw [List.getElem?_map, h]; rfl
  rw [s.L, List.getElem?_map] at h1
  cases hy : Y.L[t]? with
  | none => rw [hy] at h1; cases h1
  | some y => rw [hy] at h1; exact ⟨y, rfl, (Option.some.inj h1).symm⟩
theorem SameD.mem (s : SameD X Y) {o : OwR} (h : o ∈ X.L) : ∃ o' ∈ Y.L, sk o = sk o' := by
  obtain ⟨t, ht⟩ := List.getElem?_of_mem h
  obtain ⟨o', h1, h2⟩ := s.at ht
  exact ⟨o', List.mem_of_getElem? h1, h2⟩
theorem SameD.good (s : SameD X Y) (g : GoodG X) : GoodG Y := by
  have hm : ∀ o ∈ Y.L, ∃ o' ∈ X.L, o'.cls = o.cls ∧ o'.lo = o.lo ∧ o'.wd = o.wd ∧ o'.P = o.P := fun o ho => by
    obtain ⟨o', h1, h2⟩ := s.symm.mem ho
    obtain ⟨e1, e2, e3, e4⟩ := sk_parts h2
    exact ⟨o', h1, e1.symm, e2.symm, e3.symm, e4.symm⟩
  refine ⟨by rw [← s.K]; exact g.len, fun i hi => ?_, ?_, fun o ho => ?_, fun o ho => ?_, fun o ho => ?_, ?_⟩
  · rw [← s.K, g.mark i hi]
    constructor
    · rintro (e | ⟨o, ho, h1, h2⟩)
      · exact .inl e
      · obtain ⟨o', h3, h4⟩ := s.mem ho
        obtain ⟨e1, e2, e3, e4⟩ := sk_parts h4
        exact .inr ⟨o', h3, by omega, by omega⟩
    · rintro (e | ⟨o, ho, h1, h2⟩)
      · exact .inl e
      · obtain ⟨o', h3, e1, e2, e3, e4⟩ := hm o ho
        exact .inr ⟨o', h3, by omega, by omega⟩
  · have h1 : (X.L.map sk).Pairwise fun a b => a.2.1 + a.2.2.1 ≤ b.2.1 := List.pairwise_map.2 g.rise
    rw [s.L] at h1
    exact List.pairwise_map.1 h1
  · obtain ⟨o', h3, e1, e2, e3, e4⟩ := hm o ho
    have := g.fit o' h3
    omega
  · obtain ⟨o', h3, e1, e2, e3, e4⟩ := hm o ho
    have := g.run o' h3
    rw [e4, e2, s.pl] at this; exact this
  · obtain ⟨o', h3, e1, e2, e3, e4⟩ := hm o ho
    have := g.cls o' h3
    unfold RightC at this ⊢
    rw [e1, e3, e4] at this; exact this
  · have h1 : sumW X.L = sumW Y.L := by
      have h2 : (X.L.map sk).map (fun z => z.2.2.1) = (Y.L.map sk).map (fun z => z.2.2.1) := by rw [s.L]
      rw [List.map_map, List.map_map] at h2
      unfold sumW
      exact congrArg List.sum h2
    rw [← s.K, ← h1]; exact g.sum
theorem filter_sk (l : List OwR) (p : (Int × Nat × Nat × PG) → Bool) : (l.filter fun x => p (sk x)).map sk = (l.map sk).filter p := by
  rw [List.filter_map]; rfl
theorem SameD.add (s : SameD X Y) (op pp op' pp' : Nat) (cls : Int) (a n bl z : Nat) : SameD (X.add op pp cls a n bl z) (Y.add op' pp' cls a n bl z) := by
  refine ⟨s.pl, by show MarkMath.setAt X.K a n true = MarkMath.setAt Y.K a n true; rw [s.K], ?_⟩
  show (insR X.L _).map sk = (insR Y.L _).map sk
  unfold insR
  rw [List.map_append, List.map_append, List.map_cons, List.map_cons]
  have e1 := filter_sk X.L fun v => decide (v.2.1 < a)
  have e2 := filter_sk Y.L fun v => decide (v.2.1 < a)
  have e3 := filter_sk X.L fun v => decide (a < v.2.1)
  have e4 := filter_sk Y.L fun v => decide (a < v.2.1)
  rw [s.L] at e1 e3
  have hs : sk ⟨op, pp, cls, a, n, newPG (fromS X.pl a) z bl⟩ = sk ⟨op', pp', cls, a, n, newPG (fromS Y.pl a) z bl⟩ := by rw [s.pl]; rfl
  rw [hs]
  exact congr (congrArg _ (e1.trans e2.symm)) (congrArg _ (e3.trans e4.symm))
theorem SameD.cut (s : SameD X Y) {o o' : OwR} (h : sk o = sk o') : SameD (X.cut o) (Y.cut o') := by
  obtain ⟨e1, e2, e3, e4⟩ := sk_parts h
  refine ⟨s.pl, by show MarkMath.setAt X.K o.lo o.wd false = MarkMath.setAt Y.K o'.lo o'.wd false; rw [s.K, e2, e3], ?_⟩
  show (X.L.filter _).map sk = (Y.L.filter _).map sk
  have e5 := filter_sk X.L fun v => decide (v.2.1 ≠ o.lo)
  have e6 := filter_sk Y.L fun v => decide (v.2.1 ≠ o.lo)
  rw [s.L] at e5
  rw [← e2]
  exact e5.trans e6.symm
theorem SameD.put (s : SameD X Y) (hX : (X.L.map fun o => o.pp).Nodup) (hY : (Y.L.map fun o => o.pp).Nodup) {t : Nat} {o o' : OwR} (ho : X.L[t]? = some o) (ho' : Y.L[t]? = some o') (h : sk o = sk o') (S : PG) : SameD (X.put o.pp S) (Y.put o'.pp S) := by
  obtain ⟨e1, e2, e3, e4⟩ := sk_parts h
  refine ⟨s.pl, s.K, List.ext_getElem? fun i => ?_⟩
  rw [List.getElem?_map, List.getElem?_map]
  by_cases e : i = t
  · subst e
    rw [put_at ho, put_at ho']
    show some (sk { o with P := S }) = some (sk { o' with P := S })
    unfold sk
    rw [e1, e2, e3]
  · rw [put_other hX ho e, put_other hY ho' e]
    have := congrArg (fun l => l[i]?) s.L
    simpa [List.getElem?_map] using this
theorem SameD.inS (s : SameD X Y) (g : GoodG X) (i : Nat) : (SegMath.inS X i).map sk = (SegMath.inS Y i).map sk := by
  have e1 : ∀ l : List OwR, (l.find? fun o => decide (o.lo ≤ i) && decide (i < o.lo + o.wd)).map sk = (l.map sk).find? fun v => decide (v.2.1 ≤ i) && decide (i < v.2.1 + v.2.2.1) := fun l => by
    rw [List.find?_map]; rfl
  unfold SegMath.inS
  rw [e1, e1, s.L]
theorem SameD.atS (s : SameD X Y) (n : Int) : (SegMath.atS X n).map sk = (SegMath.atS Y n).map sk := by
  have e1 : ∀ l : List OwR, (l.find? fun o => decide ((o.lo : Int) = n)).map sk = (l.map sk).find? fun v => decide ((v.2.1 : Int) = n) := fun l => by
    rw [List.find?_map]; rfl
  unfold SegMath.atS
  rw [e1, e1, s.L]
theorem SameD.find (s : SameD X Y) (g : GoodG X) (a : Nat) : (findO X a).map sk = (findO Y a).map sk ∧ findE X a = findE Y a := by
  have h1 := s.inS g ((a - X.pl * 16384) / 1024)
  have h2 : (SegMath.inS X ((a - X.pl * 16384) / 1024)).isSome = (SegMath.inS Y ((a - X.pl * 16384) / 1024)).isSome := by
    have := congrArg Option.isSome h1
    simpa using this
  unfold findO findE
  rw [← s.pl]
  split
  · exact ⟨rfl, rfl⟩
  · exact ⟨h1, by rw [h2]⟩
theorem SameD.drop (s : SameD X Y) (n : Int) : SameD (dropE X n).1 (dropE Y n).1 ∧ (dropE X n).2 = (dropE Y n).2 := by
  have h := s.atS n
  unfold dropE
  cases hx : SegMath.atS X n with
  | none =>
    cases hy : SegMath.atS Y n with
    | none => exact ⟨s, rfl⟩
    | some y => rw [hx, hy] at h; cases h
  | some x =>
    cases hy : SegMath.atS Y n with
    | none => rw [hx, hy] at h; cases h
    | some y =>
      rw [hx, hy] at h
      have hs := Option.some.inj h
      obtain ⟨e1, e2, e3, e4⟩ := sk_parts hs
      simp only []
      rw [e4]
      split
      · exact ⟨s, rfl⟩
      · exact ⟨s.cut hs, rfl⟩
end
theorem fit_10 {L : List Nat} {S : PG} (g : GoodP L S) (h : AddP S) (hct : S.ct = 0) (hca : S.ca = 0) : FitP S := by
  have h1 := g.may
  have h2 := may_iff.1 h1
  have h3 : S.made = S.F.length + S.G.length + S.used := h
  have h4 := g.made; have h5 := g.n2
  exact ⟨h1, by omega, by omega, by omega, h4, by omega, by omega, by omega, by omega, by omega⟩
theorem big_10 {L : List Nat} {S : PG} (g : GoodP L S) : ∀ x ∈ (refill S).F, U64B x := fun x hx => by
  obtain ⟨h1, h2, h3, h4, h5⟩ := refill_good g
  have hb := h1 x hx
  have := hb.fits h2 g.fit
  have := g.big
  show x ≤ _
  omega
theorem zero_alloc {S : PG} (h : S.ct = 0 ∧ S.ca = 0) : (allocP S).1.ct = 0 ∧ (allocP S).1.ca = 0 := by
  obtain ⟨_, _, _, _, e5, e6⟩ := refill_parts S
  cases hF : (refill S).F with
  | nil => rw [allocP_nil hF]; exact h
  | cons a t =>
    rw [allocP_cons hF]
    exact ⟨e5.trans h.1, e6.trans h.2⟩
/-- Both, since w. -/
structure TQ (w : World) (C : SgC w) (sp p g : Nat) (I : Nat → Prop) (c : Addr) (L : List Nat) (X : SG) (q mk gm : Nat) (Y : SG) (w' : World) : Prop where
  os : OSg C sp p g I c L X w'
  rd : RD (SO p g I X) w' q mk gm Y
  lo : ∀ b, DN q mk gm Y b → w.heap.size ≤ b
section
variable {w : World} {C : SgC w} {sp p g : Nat} {I I2 : Nat → Prop} {c : Addr} {L L2 : List Nat} {X X2 : SG} {q mk gm : Nat} {Y Y2 : SG} {w' w2 : World}
theorem TQ.hZ (h : TQ w C sp p g I c L X q mk gm Y w') : ∀ b, SO p g I X b → b < w'.heap.size := fun b hb => h.os.sg.lt hb
theorem TQ.grew (h : TQ w C sp p g I c L X q mk gm Y w') (b : Below w'.heap.size w' w2) : TQ w C sp p g I c L X q mk gm Y w2 := ⟨h.os.grew b, h.rd.grew b, h.lo⟩
theorem TQ.drew (h : TQ w C sp p g I c L X q mk gm Y w') : TQ w C sp p g I c L X q mk gm Y w'.drew := h.grew (Below.refl _ _).drew
/-- Behind a call of the law's own segment. -/
theorem TQ.land (h : TQ w C sp p g I c L X q mk gm Y w') (k : OSg C sp p g I2 c L2 X2 w2) (u : Upd (SO p g I X) w' w2) (hg : Grown p g I X I2 X2 w'.heap.size) : TQ w C sp p g I2 c L2 X2 q mk gm Y w2 :=
  ⟨k, ((h.rd.re (Z' := fun b => SO p g I X b ∨ SO p g I2 X2 b) fun b hb => by rcases hb with x | x; exact .inl x; exact hg b x).upd u fun b hb => .inl hb).re fun b hb => .inl (.inr hb), h.lo⟩
/-- Behind one of the document's. -/
theorem TQ.doc {T : Nat → Prop} (h : TQ w C sp p g I c L X q mk gm Y w') (k : RD (SO p g I X) w2 q mk gm Y2) (u : Upd T w' w2) (hT : ∀ b, T b → DN q mk gm Y b) (hD : ∀ b, DN q mk gm Y2 b → DN q mk gm Y b ∨ w'.heap.size ≤ b) : TQ w C sp p g I c L X q mk gm Y2 w2 :=
  ⟨h.os.upd u fun b hb => ⟨h.rd.sep b (hT b hb), h.lo b (hT b hb)⟩, k, fun b hb => by
    rcases hD b hb with x | x
    · exact h.lo b x
    · exact Nat.le_trans h.os.below.size x⟩
theorem dn_add {op pp a n bl s m : Nat} {cls : Int} (h1 : m ≤ op) (h2 : m ≤ pp) : ∀ b, DN q mk gm (Y.add op pp cls a n bl s) b → DN q mk gm Y b ∨ m ≤ b := fun b hb => by
  rcases hb with e | e | e | ⟨x, hx, e⟩
  · exact .inl (.inl e)
  · exact .inl (.inr (.inl e))
  · exact .inl (.inr (.inr (.inl e)))
  · rcases insR_mem.1 (show x ∈ insR Y.L _ from hx) with rfl | hx
    · rcases e with e | e
      · have e2 : b = op := e
        exact .inr (by omega)
      · have e2 : b = pp := e
        exact .inr (by omega)
    · exact .inl (.inr (.inr (.inr ⟨x, hx.1, e⟩)))
theorem dn_drop {n : Int} : ∀ b, DN q mk gm (dropE Y n).1 b → DN q mk gm Y b := fun b hb => by
  have hsub : ∀ o ∈ (dropE Y n).1.L, o ∈ Y.L := by
    unfold dropE
    cases atS Y n with
    | none => exact fun o h => h
    | some x =>
      simp only []
      split
      · exact fun o h => h
      · exact fun o h => (List.mem_filter.1 h).1
  rcases hb with e | e | e | ⟨x, hx, e⟩
  · exact .inl e
  · exact .inr (.inl e)
  · exact .inr (.inr (.inl e))
  · exact .inr (.inr (.inr ⟨x, hsub x hx, e⟩))
end
end Go.Proofs.YtomepdgddpajoaaDoor
