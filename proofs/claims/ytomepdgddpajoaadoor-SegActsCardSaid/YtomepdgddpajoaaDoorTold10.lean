/- The law's told and at, over both segments. -/
import Derived.Test.YtomepdgddpajoaaDoorRefT10
import Derived.Deep.RegionHeld3
namespace Go.Proofs.YtomepdgddpajoaaDoor
open Go.RowKit ListMath PageMath GeoMath SegMath ClassMath
set_option linter.unusedVariables false
set_option maxRecDepth 100000

section
variable {w : World} {C : SgC w} {sp p g : Nat} {I : Nat → Prop} {c : Addr} {L : List Nat} {X : SG} {q mk gm : Nat} {Y : SG} {w' : World}
set_option maxHeartbeats 4000000 in
theorem told_none (w' : World) (E : Int) : Calls Tryd.prog 17 #[.pointer none, .int .i64 E, .pointer none, .int .i64 E] w' fun e w2 => e = .returned (.bool true) ∧ Below w'.heap.size w' w2 := by
  have t1 : ((E : Int) != (E : Int)) = false := by simp
  go_enter Tryd.func17, Tryd.ntmps17
  go_wp2
  simp only [List.append_eq, List.cons_append, List.nil_append]
  go_quiet (fail)
  go_wp2
  go_ret
  exact ⟨rfl, below_drewN (Below.refl _ _) nq⟩
theorem eq_run (f s n : Nat) (w : World) : (binOp .eql 108 (.agg #[.int .u64 (f : Int), .int .u64 (s : Int), .int .i64 (n : Int)]) (.agg #[.int .u64 (f : Int), .int .u64 (s : Int), .int .i64 (n : Int)])).run Tryd.prog w = .ok (.bool true) w := by
  go_simp
set_option maxHeartbeats 4000000 in
theorem told_some (h : TQ w C sp p g I c L X q mk gm Y w') {o o' : OwR} (ho : o ∈ X.L) (ho' : o' ∈ Y.L) (hs : sk o = sk o') (E : Int) :
    Calls Tryd.prog 17 #[.pointer (some ⟨o.op, 0, none⟩), .int .i64 E, .pointer (some ⟨o'.op, 0, none⟩), .int .i64 E] w' fun e w2 => e = .returned (.bool true) ∧ Below w'.heap.size w' w2 := by
  obtain ⟨e1, e2, e3, e4⟩ := sk_parts hs
  obtain ⟨vF, vG, vP, kp⟩ := h.rd.p ho'
  rw [← e4] at kp
  have hruno := fun (w2 : World) (b : Below w'.heap.size w' w2) => ((h.os.grew b).run ho).mono fun e w3 k => (⟨k.1, k.2.2⟩ : e = .returned (runV o.P.f o.P.s (o.P.n : Int)) ∧ Below w2.heap.size w2 w3)
  have husd := fun (w2 : World) (b : Below w'.heap.size w' w2) => (h.os.grew b).used ho
  have hc := fun (w2 : World) (b : Below w'.heap.size w' w2) => show (w2.cell? ⟨o.op, 0, none⟩ = some (.pointer (some ⟨o.pp, 0, none⟩)) ∧ w2.cell? ⟨o.op, 1, none⟩ = some (.int .i64 o.cls) ∧ w2.cell? ⟨o.op, 2, none⟩ = some (.int .i64 (o.lo : Int)) ∧ w2.cell? ⟨o.op, 3, none⟩ = some (.int .i64 (o.wd : Int))) ∧ (w2.cell? ⟨o'.op, 0, none⟩ = some (.pointer (some ⟨o'.pp, 0, none⟩)) ∧ w2.cell? ⟨o'.op, 1, none⟩ = some (.int .i64 o.cls) ∧ w2.cell? ⟨o'.op, 2, none⟩ = some (.int .i64 (o.lo : Int)) ∧ w2.cell? ⟨o'.op, 3, none⟩ = some (.int .i64 (o.wd : Int))) ∧ (w2.cell? ⟨o'.pp, 0, none⟩ = some (.int .u64 (o.P.f : Int)) ∧ w2.cell? ⟨o'.pp, 1, none⟩ = some (.int .u64 (o.P.s : Int)) ∧ w2.cell? ⟨o'.pp, 2, none⟩ = some (.int .i64 (o.P.n : Int)) ∧ w2.cell? ⟨o'.pp, 4, none⟩ = some (.int .i64 (o.P.used : Int))) from by
    have hg := h.grew b
    refine ⟨⟨hg.os.c0 ho, hg.os.c1 ho, hg.os.c2 ho, hg.os.c3 ho⟩, ⟨hg.rd.o0 ho', ?_, ?_, ?_⟩, (kp.grew b).cell 0, (kp.grew b).cell 1, (kp.grew b).cell 2, (kp.grew b).cell 4⟩
    · rw [e1]; exact hg.rd.o1 ho'
    · rw [e2]; exact hg.rd.o2 ho'
    · rw [e3]; exact hg.rd.o3 ho'
  obtain ⟨op, hop⟩ : ∃ x, o.op = x := ⟨_, rfl⟩
  obtain ⟨pp, hpp⟩ : ∃ x, o.pp = x := ⟨_, rfl⟩
  obtain ⟨cls, hcls⟩ : ∃ x, o.cls = x := ⟨_, rfl⟩
  obtain ⟨lo, hlo⟩ : ∃ x, o.lo = x := ⟨_, rfl⟩
  obtain ⟨wd, hwd⟩ : ∃ x, o.wd = x := ⟨_, rfl⟩
  obtain ⟨f, hf⟩ : ∃ x, o.P.f = x := ⟨_, rfl⟩
  obtain ⟨s, hss⟩ : ∃ x, o.P.s = x := ⟨_, rfl⟩
  obtain ⟨n, hn⟩ : ∃ x, o.P.n = x := ⟨_, rfl⟩
  obtain ⟨us, hus⟩ : ∃ x, o.P.used = x := ⟨_, rfl⟩
  obtain ⟨op', hop'⟩ : ∃ x, o'.op = x := ⟨_, rfl⟩
  obtain ⟨pp', hpp'⟩ : ∃ x, o'.pp = x := ⟨_, rfl⟩
  rw [hpp, hf, hss, hn] at hruno
  rw [hpp, hus] at husd
  rw [hop, hpp, hcls, hlo, hwd, hf, hss, hn, hus, hop', hpp'] at hc
  rw [hop, hop']
  unfold runV at hruno
  have RUN := Lib.hid hruno; have US := Lib.hid husd; have HC := Lib.hid hc
  have t1 : ((E : Int) != (E : Int)) = false := by simp
  obtain ⟨⟨c0, c1, c2, c3⟩, ⟨d0, d1, d2, d3⟩, p0, p1, p2, p4⟩ := hc _ (Below.refl _ _)
  clear h e1 e2 e3 e4 kp hruno husd hc hop hpp hcls hlo hwd hf hss hn hus hop' hpp' ho ho' hs
  go_enter Tryd.func17, Tryd.ntmps17
  have t2 : ((cls : Int) == cls) = true := by simp
  have t3 : ((lo : Int) == (lo : Int)) = true := by simp
  have t4 : ((wd : Int) == (wd : Int)) = true := by simp
  have t5 : ((us : Int) == (us : Int)) = true := by simp
  have EQ := eq_run f s n
  have B0 := Lib.hid (Below.refl w'.heap.size w')
  go_wp2_with fail
  simp only [List.append_eq, List.cons_append, List.nil_append]
  go_region_held3 (fun W => (W.cell? ⟨op, 0, none⟩ = some (.pointer (some ⟨pp, 0, none⟩)) ∧ W.cell? ⟨op, 1, none⟩ = some (.int .i64 cls) ∧ W.cell? ⟨op, 2, none⟩ = some (.int .i64 (lo : Int)) ∧ W.cell? ⟨op, 3, none⟩ = some (.int .i64 (wd : Int))) ∧ (W.cell? ⟨op', 0, none⟩ = some (.pointer (some ⟨pp', 0, none⟩)) ∧ W.cell? ⟨op', 1, none⟩ = some (.int .i64 cls) ∧ W.cell? ⟨op', 2, none⟩ = some (.int .i64 (lo : Int)) ∧ W.cell? ⟨op', 3, none⟩ = some (.int .i64 (wd : Int))) ∧ (W.cell? ⟨pp', 0, none⟩ = some (.int .u64 (f : Int)) ∧ W.cell? ⟨pp', 1, none⟩ = some (.int .u64 (s : Int)) ∧ W.cell? ⟨pp', 2, none⟩ = some (.int .i64 (n : Int)) ∧ W.cell? ⟨pp', 4, none⟩ = some (.int .i64 (us : Int)))) (first | go_keep | exact ⟨⟨c0, c1, c2, c3⟩, ⟨d0, d1, d2, d3⟩, p0, p1, p2, p4⟩)
    (first
      | (go_at_call 31; (first | (with_reducible refine (RUN.out _ B0.out.drew).mono ?_) | (with_reducible refine (RUN.out _ B0.out).mono ?_)); rintro e w2 ⟨rfl, hb⟩; have B0 := Lib.hid (by first | exact below_then B0.out.drew B0.out.size hb | exact below_then B0.out B0.out.size hb); obtain ⟨⟨c0, c1, c2, c3⟩, ⟨d0, d1, d2, d3⟩, p0, p1, p2, p4⟩ := HC.out _ B0.out; clear hb)
      | (go_at_call 41; (first | (with_reducible refine (US.out _ B0.out.drew).mono ?_) | (with_reducible refine (US.out _ B0.out).mono ?_)); rintro e w3 ⟨rfl, _, hb⟩; have B0 := Lib.hid (by first | exact below_then B0.out.drew B0.out.size hb | exact below_then B0.out B0.out.size hb); obtain ⟨⟨c0, c1, c2, c3⟩, ⟨d0, d1, d2, d3⟩, p0, p1, p2, p4⟩ := HC.out _ B0.out; clear hb))
  clear c0 c1 c2 c3 d0 d1 d2 d3 p0 p1 p2 p4
  go_wp2
  go_ret
  exact ⟨rfl, B0.out⟩
theorem told_any (h : TQ w C sp p g I c L X q mk gm Y w') {a b : Option OwR} (ha : ∀ o, a = some o → o ∈ X.L) (hb : ∀ o, b = some o → o ∈ Y.L) (hs : a.map sk = b.map sk) (E : Int) :
    Calls Tryd.prog 17 #[ptrO a, .int .i64 E, ptrO b, .int .i64 E] w' fun e w2 => e = .returned (.bool true) ∧ Below w'.heap.size w' w2 := by
  cases a with
  | none =>
    cases b with
    | none => exact told_none w' E
    | some y => cases hs
  | some x =>
    cases b with
    | none => cases hs
    | some y => exact told_some h (ha x rfl) (hb y rfl) (Option.some.inj hs) E
end
end Go.Proofs.YtomepdgddpajoaaDoor
