/- The landed queue: its exported calls. Written by genqland.py. -/
import Derived.Test.YtolccandekgmoaaQLand
namespace Go.Proofs.Ytolccandekgmoaa
open Go.RowKit Go.Maps QueueMath
set_option linter.unusedVariables false
set_option maxRecDepth 100000

def HaR (w : World) (S : QR) (l : List Int) (i : Value) (wr : World) : Prop := ∃ t : Nat, t ≤ l.length ∧ i = .int .i64 (t : Int) ∧ (∀ y ∈ l.take t, y ∈ S.all) ∧ w = wr
set_option maxHeartbeats 1000000 in
theorem qs_has (w : World) {b : Nat} {O : Nat → Prop} {S : QR} {v : Value} {l : List Int} (h : QuS w b O S) (hv : Arr w v l) :
    Calls Try.prog 25 #[.pointer (some ⟨b, 0, none⟩), v] w fun e w' => e = .returned (.bool (hasE S l)) ∧ Below w.heap.size w w' := by
  obtain ⟨p, Or, hb, hp, -⟩ := h
  obtain ⟨a, c, rfl, hc1, hc2⟩ := hv.out
  obtain ⟨n, hnl⟩ : ∃ n, l.length = n := ⟨_, rfl⟩
  rw [hnl] at hv hc1 ⊢
  have c0 : w.cell? ⟨b, 0, none⟩ = some (.pointer p) := hb.cell 0
  have VA := Lib.hid hv; have HL := Lib.hid hnl; have HP := Lib.hid hp
  have I0 : Hid (HaR w S l (.int .i64 0) w) := Lib.hid ⟨0, Nat.zero_le _, rfl, (fun y hy => by simp at hy), rfl⟩
  obtain ⟨E, hE⟩ : ∃ E, hasE S l = E := ⟨_, rfl⟩
  rw [hE]
  have HE := Lib.hid hE
  clear hb hp hv hnl hE
  go_enter Try.func25, Try.ntmps25
  go_wp2
  go_loopw [11] (fun i wr => HaR w S l i wr) (fun i _ => n - (intOf i).toNat)
  case atStart => exact I0.out
  case round =>
    clear I0
    obtain ⟨t, ht, rfl, hall, rfl⟩ := hrel
    rw [HL.out] at ht
    have HA := Lib.hid hall
    by_cases htn : t < n
    · obtain ⟨b3, off3, x, ea, hx, hxm, hx64, d0⟩ := VA.out.at (t := t) (by rw [HL.out]; exact htn)
      subst ea
      have HX := Lib.hid hx; have HXM := Lib.hid hxm
      have K := Lib.hid (ps_find HP.out hx64)
      have t2 : decide ((t : Int) < (n : Int)) = true := decide_eq_true (by omega)
      have t2' : decide (t < n) = true := decide_eq_true htn
      have q3 : (0 : Int) ≤ (t : Int) := by omega
      have q4 : (t : Int) < (n : Int) := by omega
      clear hall hx hxm
      go_wp2_with fail
      refine K.out.mono ?_; rintro e w1 ⟨⟨s, rfl, hs⟩, rfl⟩
      rcases hs with ⟨rfl, hs⟩ | ⟨⟨k, rfl⟩, hs⟩
      · have EF : E = false := by
          rw [← HE.out]
          cases hh : hasE S l with
          | false => rfl
          | true => exact absurd (of_decide_eq_true (List.all_eq_true.1 hh x HXM.out)) hs
        subst EF
        clear hs
        go_wp2
        go_ret
        exact ⟨rfl, Below.refl _ _⟩
      · have HS := Lib.hid hs
        clear hs
        go_wp2
        go_roundw
        case rel => exact ⟨t + 1, by rw [HL.out]; omega, by go_num, (fun y hy => by
          rw [List.take_add_one, HX.out] at hy
          rcases List.mem_append.1 hy with hy | hy
          · exact HA.out y hy
          · rw [List.mem_singleton.1 hy]; exact HS.out), rfl⟩
        case measure => simp [intOf]; omega
    · obtain rfl : t = n := by omega
      have t2 : decide ((t : Int) < (t : Int)) = false := decide_eq_false (by omega)
      have ET : E = true := by
        rw [← HE.out]
        refine List.all_eq_true.2 fun y hy => decide_eq_true (HA.out y ?_)
        rw [← HL.out, List.take_length]; exact hy
      subst ET
      clear hall
      go_wp2
      go_ret
      exact ⟨rfl, Below.refl _ _⟩
theorem loadRow {w : World} {g : Nat} {t : TypeId} {p q : Option Addr} (h : Blk w g t #[.pointer p, .pointer q]) : (loadVar 51 ⟨g, 0, none⟩).run Try.prog w = .ok (.agg #[.pointer p, .pointer q]) w := by
  have hi : (Try.prog.info? 51).map (fun j => j.size) = some 2 := by kernel_rfl
  exact run_loadVar_row w g t 51 _ (0, 0) _ h Try.underlying51 rfl hi
theorem results_cell2 {fn : Func} {a b : Tmp} {t : TypeId} (h : fn.results = #[.cell a t, .cell b t]) (tmps : Array Value) {P : Program} {w : World} {pa pb : Addr} {va vb : Value} (ea : tmps.getD a undef = .pointer (some pa)) (eb : tmps.getD b undef = .pointer (some pb)) (ha : (loadVar t pa).run P w = .ok va w) (hb : (loadVar t pb).run P w = .ok vb w) :
    (results fn tmps).run P w = .ok (.tuple #[va, vb]) w := by
  rw [Array.getD_eq_getD_getElem?] at ea eb
  simp [results, h, ea, eb, asAddr, ha, hb]
abbrev rowV (l : List Sp) : Value := .agg #[.pointer (fstP l none), .pointer (lstP l none)]
set_option maxHeartbeats 1000000 in
theorem both_nil (w : World) : Calls Try.prog 31 #[.pointer none] w fun e w' => e = .returned (.tuple #[rowV [], rowV []]) ∧ Below w.heap.size w w' := by
  go_enter Try.func31, Try.ntmps31
  go_wp2
  have b1 := (Blk.new w 51 #[.pointer none, .pointer none]).alloc (.cells #[.pointer none, .pointer none] 51)
  have b2 := Blk.new (w.alloc (.cells #[.pointer none, .pointer none] 51)) 51 #[.pointer none, .pointer none]
  rw [World.size_alloc] at b2
  refine bodyPost_ret (results_cell2 rfl _ rfl rfl (loadRow b1) (loadRow b2)) rfl ?_
  exact ⟨rfl, ((Below.refl _ w).alloc (Nat.le_refl _) _).alloc (by rw [World.size_alloc]; omega) _⟩
set_option maxHeartbeats 1000000 in
theorem both_rows {w : World} {rb mb : Nat} {R F : List Sp} (h : RowsAt w rb mb R F) : Calls Try.prog 31 #[.pointer (some ⟨rb, 0, none⟩)] w fun e w' => e = .returned (.tuple #[rowV R, rowV F]) ∧ Below w.heap.size w w' := by
  have hlt := h.blk.lt
  have c0 : w.cell? ⟨rb, 0, none⟩ = some (.pointer (fstP R none)) := h.blk.cell 0
  have c1 : w.cell? ⟨rb, 1, none⟩ = some (.pointer (lstP R none)) := h.blk.cell 1
  have c2 : w.cell? ⟨rb, 2, none⟩ = some (.pointer (fstP F none)) := h.blk.cell 2
  have c3 : w.cell? ⟨rb, 3, none⟩ = some (.pointer (lstP F none)) := h.blk.cell 3
  obtain ⟨p0, h0⟩ : ∃ y, fstP R none = y := ⟨_, rfl⟩
  obtain ⟨p1, h1⟩ : ∃ y, lstP R none = y := ⟨_, rfl⟩
  obtain ⟨p2, h2⟩ : ∃ y, fstP F none = y := ⟨_, rfl⟩
  obtain ⟨p3, h3⟩ : ∃ y, lstP F none = y := ⟨_, rfl⟩
  rw [h0] at c0; rw [h1] at c1; rw [h2] at c2; rw [h3] at c3
  show Calls _ _ _ _ fun e w' => e = .returned (.tuple #[.agg #[.pointer (fstP R none), .pointer (lstP R none)], .agg #[.pointer (fstP F none), .pointer (lstP F none)]]) ∧ _
  rw [h0, h1, h2, h3]
  have ne1 : w.heap.size ≠ rb := by omega
  have ne2 : w.heap.size + 1 ≠ rb := by omega
  clear h h0 h1 h2 h3
  go_enter Try.func31, Try.ntmps31
  go_wp2
  go_region_held3 (fun x => x.cell? ⟨rb, 0, none⟩ = some (.pointer p0) ∧ x.cell? ⟨rb, 1, none⟩ = some (.pointer p1) ∧ x.cell? ⟨rb, 2, none⟩ = some (.pointer p2) ∧ x.cell? ⟨rb, 3, none⟩ = some (.pointer p3)) (first | go_keep | exact ⟨c0, c1, c2, c3⟩) (fail)
  go_wp2
  have b1 := ((Blk.new w 51 #[.pointer p0, .pointer p1]).alloc (.cells #[.pointer p2, .pointer p3] 51)).drew
  have b2 := (Blk.new (w.alloc (.cells #[.pointer p0, .pointer p1] 51)) 51 #[.pointer p2, .pointer p3]).drew
  rw [World.size_alloc] at b2
  refine bodyPost_ret (results_cell2 rfl _ rfl rfl (loadRow b1) (loadRow b2)) rfl ?_
  exact ⟨rfl, (((Below.refl _ w).alloc (Nat.le_refl _) _).alloc (by rw [World.size_alloc]; omega) _).drew⟩
theorem ps_both {w : World} {p : Option Addr} {O : Nat → Prop} {S : QR} (h : PS w p O S) : ∃ rb R F, S = ⟨nums R, nums F⟩ ∧ SegP w ⟨rb, 0, none⟩ none R none ∧ SegP w ⟨rb, 2, none⟩ none F none ∧
    Calls Try.prog 31 #[.pointer p] w fun e w' => e = .returned (.tuple #[rowV R, rowV F]) ∧ Below w.heap.size w w' := by
  rcases h with ⟨rfl, rfl⟩ | ⟨rb, rfl, mb, R, F, h, rfl, -⟩
  · exact ⟨0, [], [], rfl, trivial, trivial, both_nil w⟩
  · exact ⟨rb, R, F, rfl, h.sr, h.sf, both_rows h⟩
end Go.Proofs.Ytolccandekgmoaa
