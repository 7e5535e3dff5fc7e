/- The law's at, over both segments. -/
import Derived.Test.YtomepdgddpajoaaDoorRefT10
namespace Go.Proofs.YtomepdgddpajoaaDoor
open Go.RowKit ListMath PageMath GeoMath SegMath ClassMath
set_option linter.unusedVariables false
set_option maxRecDepth 100000

def AtR (w : World) (l : List OwR) (n : Int) (i : Value) (wr : World) : Prop := ∃ t : Nat, t ≤ l.length ∧ i = .int .i64 (t : Int) ∧ Below w.heap.size w wr
/-- What at answers: nothing, or the page that stands at one index in both. -/
def Both (X Y : SG) (v : Value) : Prop := ∃ a b : Option OwR, v = .tuple #[ptrO a, ptrO b] ∧ ((a = none ∧ b = none) ∨ ∃ (t : Nat) (o o' : OwR), a = some o ∧ b = some o' ∧ X.L[t]? = some o ∧ Y.L[t]? = some o' ∧ sk o = sk o')
section
variable {w : World} {C : SgC w} {sp p g : Nat} {I : Nat → Prop} {c : Addr} {L : List Nat} {X : SG} {q mk gm : Nat} {Y : SG} {w' : World}
set_option maxHeartbeats 4000000 in
theorem at_any (h : TQ w C sp p g I c L X q mk gm Y w') (s : SameD X Y) {n : Int} (hn : I64B n) :
    Calls Tryd.prog 20 #[.pointer (some ⟨sp, 0, none⟩), .pointer (some ⟨q, 0, none⟩), .int .i64 n] w' fun e w2 => (∃ v, e = .returned v ∧ Both X Y v) ∧ Below w'.heap.size w' w2 := by
  obtain ⟨ar, cap, c2, hrow, hlc, hcap⟩ := h.rd.row
  obtain ⟨N, hN⟩ : ∃ n, Y.L.length = n := ⟨_, rfl⟩
  have hNX : X.L.length = N := s.len.trans hN
  have hN15 : N ≤ 15 := by rw [← hNX]; exact h.os.sg.good.count
  rw [hN] at c2 hlc
  have HN := Lib.hid hN; have HNX := Lib.hid hNX
  have H0 := Lib.hid h; have HS := Lib.hid s; have ROW := Lib.hid hrow
  obtain ⟨n1, n2⟩ := hn
  have I0 := Lib.hid (show AtR w' Y.L n (.int .i64 0) w' from ⟨0, Nat.zero_le _, rfl, Below.refl _ _⟩)
  clear h s hrow hN hNX
  go_enter Tryd.func20, Tryd.ntmps20
  go_wp2
  clear c2
  go_loopw [16] (fun i wr => AtR w' Y.L n i wr) (fun i _ => N - (intOf i).toNat)
  case atStart => exact I0.out
  case round =>
    clear I0
    obtain ⟨t, ht, rfl, hb⟩ := hrel
    rw [HN.out] at ht
    have B := Lib.hid hb
    by_cases htn : t < N
    · have htl : t < Y.L.length := by rw [HN.out]; exact htn
      obtain ⟨o', hoe'⟩ : ∃ o, Y.L[t]? = some o := ⟨Y.L[t]'htl, List.getElem?_eq_getElem _⟩
      obtain ⟨o, hoe, hsk⟩ := HS.out.symm.at hoe'
      have hoY : o' ∈ Y.L := List.mem_of_getElem? hoe'
      obtain ⟨b, off, ea, d0⟩ := ptr_at (ROW.out wr hb) hoe'
      subst ea
      have hg := H0.out.grew hb
      have HG := Lib.hid hg
      obtain ⟨lo, hlo⟩ : ∃ x, o'.lo = x := ⟨_, rfl⟩
      obtain ⟨oo, hoo⟩ : ∃ x, o'.op = x := ⟨_, rfl⟩
      have O2 := Lib.hid (fun (w2 : World) (b : Below wr.heap.size wr w2) => show w2.cell? ⟨oo, 2, none⟩ = some (.int .i64 (lo : Int)) from by rw [← hoo, ← hlo]; exact (hg.rd.grew b).o2 hoY)
      rw [hoo] at d0
      have t1 : decide ((t : Int) < (N : Int)) = true := decide_eq_true (by omega)
      have t1' : decide (t < N) = true := decide_eq_true htn
      have p0 : (0 : Int) ≤ (t : Int) := by omega
      have p1 : (t : Int) < (N : Int) := by omega
      have ej : (((t + 1 : Nat)) : Int) = (t : Int) + 1 := by omega
      have HX := Lib.hid (And.intro hoe (And.intro hoe' (And.intro hsk (And.intro hoo hlo))))
      clear hb hoe hoe' hsk hoY hg hlo hoo
      go_wp2_with fail
      refine (os_pages HG.out.os).mono ?_; rintro e w5 ⟨av, k, cv, rfl, hq, q2, q3, hin, _, hb5⟩
      have hk : k = N := by have := hq.len; rw [List.length_map] at this; rw [this]; exact HNX.out
      subst hk
      have B5 := Lib.hid (below_then B.out B.out.size hb5)
      obtain ⟨b5, off5, ea, e0⟩ : ∃ b off, av = some ⟨b, off, none⟩ ∧ w5.cell? ⟨b, off + t, none⟩ = some (.pointer (some ⟨o.op, 0, none⟩)) := by
        obtain ⟨b, off, ea, hcell⟩ := hq.elem (show (X.L.map fun o => some (⟨o.op, 0, none⟩ : Addr))[t]? = some (some ⟨o.op, 0, none⟩) by rw [List.getElem?_map, HX.out.1]; rfl)
        refine ⟨b, off, ea, ?_⟩
        have h0 := hcell 0 (.pointer (some ⟨o.op, 0, none⟩)) rfl
        simpa [Elem.ptrs] using h0
      subst ea
      have o2 := O2.out _ hb5
      clear hq q2 q3 hin hb5 d0
      by_cases hlon : (lo : Int) = n
      · subst hlon
        have t2 : ((lo : Int) == (lo : Int)) = true := by simp
        go_wp2
        go_ret2
        refine ⟨⟨_, rfl, some o, some o', ?_, .inr ⟨t, o, o', rfl, rfl, HX.out.1, HX.out.2.1, HX.out.2.2.1.symm⟩⟩, B5.out⟩
        show _ = Value.tuple #[.pointer (some ⟨o.op, 0, none⟩), .pointer (some ⟨o'.op, 0, none⟩)]
        rw [HX.out.2.2.2.1]
        rfl
      · have t2 : ((lo : Int) == n) = false := by rw [beq_eq_false_iff_ne]; exact hlon
        clear e0 hlon
        go_wp2
        go_roundw
        case rel => exact ⟨t + 1, by rw [HN.out]; omega, by rw [ej], B5.out⟩
        case measure => simp [intOf]; omega
    · obtain rfl : t = N := by omega
      have t1 : decide ((t : Int) < (t : Int)) = false := decide_eq_false (by omega)
      clear hb
      go_wp2
      go_ret2
      exact ⟨⟨_, rfl, none, none, rfl, .inl ⟨rfl, rfl⟩⟩, B.out⟩
end
end Go.Proofs.YtomepdgddpajoaaDoor
