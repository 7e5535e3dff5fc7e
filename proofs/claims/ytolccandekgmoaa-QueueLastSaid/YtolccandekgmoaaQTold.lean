/- All numbers of some rows: told. -/
import Derived.Test.YtolccandekgmoaaQRows
import Derived.Test.YtolccandekgmoaaOwn11
import Derived.Deep.LoopGhost
namespace Go.Proofs.Ytolccandekgmoaa
open Go.RowKit Go.Maps QueueMath
set_option linter.unusedVariables false

abbrev Rowz := List (Addr × List Sp)
def toldL (L : Rowz) : List Int := L.flatMap fun r => nums r.2
/-- Rows that are handed in. -/
def Rd (w : World) (g off : Nat) (L : Rowz) : Prop := ∀ i r, L[i]? = some r → w.cell? ⟨g, off + i * 2, none⟩ = some (.pointer (fstP r.2 none)) ∧ w.cell? ⟨g, off + i * 2 + 1, none⟩ = some (.pointer (lstP r.2 none)) ∧ SegP w r.1 none r.2 none
theorem Rd.grew {w w' : World} {g off : Nat} {L : Rowz} (h : Rd w g off L) (hb : Below w.heap.size w w') : Rd w' g off L := fun i r hr => by
  obtain ⟨h1, h2, h3⟩ := h i r hr
  exact ⟨(hb.cell (World.block_lt_of_cell? w _ h1)).trans h1, (hb.cell (World.block_lt_of_cell? w _ h2)).trans h2, h3.grew hb⟩
theorem told_next (L : Rowz) {t : Nat} {r : Addr × List Sp} (h : L[t]? = some r) : toldL (L.take (t + 1)) = toldL (L.take t) ++ nums r.2 := by
  rw [List.take_add_one, h]; simp [toldL]
theorem told_le (L : Rowz) (t : Nat) : (toldL (L.take t)).length ≤ (toldL L).length := by
  have e : toldL L = toldL (L.take t) ++ toldL (L.drop t) := by
    unfold toldL; rw [← List.flatMap_append, List.take_append_drop]
  rw [e, List.length_append]; omega
def ToR (w : World) (L : Rowz) (n : Nat) (v i : Value) (wr : World) : Prop :=
  ∃ (t : Nat) (v0 : Value), t ≤ n ∧ i = .int .i64 (t : Int) ∧ v0 = v ∧ Vec Elem.ints wr v (toldL (L.take t)) ∧ (∀ k, In v k → w.heap.size ≤ k) ∧ Below w.heap.size w wr
def InR (w : World) (l : List Int) (r : List Sp) (g : Nat) (v s : Value) (wr : World) : Prop :=
  ∃ (dn rest : List Sp) (v0 : Value), r = dn ++ rest ∧ g = rest.length ∧ s = .pointer (fstP rest none) ∧ v0 = v ∧ Vec Elem.ints wr v (l ++ nums dn) ∧ (∀ k, In v k → w.heap.size ≤ k) ∧ Below w.heap.size w wr
set_option maxRecDepth 100000 in
set_option maxHeartbeats 4000000 in
theorem told_any (w : World) {g off n : Nat} {L : Rowz} (h : Rd w g off L) (hn : n = L.length) (hn2 : n ≤ 2) (hm : (toldL L).length ≤ many) :
    Calls Try.prog 32 #[.slice (some ⟨g, off, none⟩) n n] w fun e w' => ∃ v, e = .returned v ∧ Vec Elem.ints w' v (toldL L) ∧ (∀ k, In v k → w.heap.size ≤ k) ∧ Below w.heap.size w w' := by
  obtain ⟨i0, hi, hz0, hz1, hz2⟩ := info_parts infoInt
  have H := Lib.hid h; have HN := Lib.hid hn
  have HM := Lib.hid (show (toldL L).length ≤ 1000000 from hm)
  have I0 := Lib.hid (show ToR w L n (.slice none 0 0) (.int .i64 0) w from ⟨0, _, Nat.zero_le _, rfl, rfl, Vec.nil _, (by intro k hk; cases hk), Below.refl _ _⟩)
  clear h hn hm
  go_enter Try.func32, Try.ntmps32
  go_wp2
  go_loopw [3, 9] (fun v i wr => ToR w L n v i wr) (fun _ i _ => n - (intOf i).toNat)
  case atStart => exact I0.out
  case round =>
    clear I0
    obtain ⟨t, v, ht, rfl, rfl, hv, hin, hb⟩ := hrel
    have B := Lib.hid hb; have V := Lib.hid hv; have NI := Lib.hid hin
    by_cases htn : t < n
    · obtain ⟨r, hr⟩ : ∃ r, L[t]? = some r := ⟨_, List.getElem?_eq_getElem (by have := HN.out; omega)⟩
      have RD := Lib.hid (H.out.grew hb)
      obtain ⟨c0, c1, -⟩ := RD.out t r hr
      have HR := Lib.hid hr
      obtain ⟨ra, l⟩ := r
      obtain ⟨p0, hp0⟩ : ∃ p, fstP l none = p := ⟨_, rfl⟩
      obtain ⟨p1, hp1⟩ : ∃ p, lstP l none = p := ⟨_, rfl⟩
      rw [show (ra, l).2 = l from rfl, hp0] at c0
      rw [show (ra, l).2 = l from rfl, hp1] at c1
      obtain ⟨T, hT⟩ : ∃ T, toldL (L.take t) = T := ⟨_, rfl⟩
      have HT := Lib.hid hT
      have I1 : Hid (∀ o, InR w T l l.length v (.pointer p0) (wr.alloc o)) := Lib.hid fun o => ⟨[], l, _, rfl, rfl, by rw [hp0], rfl, by rw [← hT]; simpa [nums] using hv.alloc o, hin, hb.alloc hb.size o⟩
      have t2 : decide ((t : Int) < (n : Int)) = true := decide_eq_true (by omega)
      have t2' : decide (t < n) = true := decide_eq_true htn
      have q3 : (0 : Int) ≤ (t : Int) := by omega
      have q4 : (t : Int) < (n : Int) := by omega
      clear hv hin hb hr hp0 hp1 hT
      go_wp2
      go_loopg [3, 6] l.length (fun k v s wr => InR w T l k v s wr)
      case atStart => exact I1.out _
      case round =>
        clear I1 c0 c1 V NI B
        obtain ⟨dn, rest, v, hl, rfl, rfl, rfl, hv, hin, hb⟩ := hrel
        have LN : Hid ((T ++ nums l).length ≤ 1000000) := Lib.hid (by rw [← HT.out, ← told_next L HR.out]; exact Nat.le_trans (told_le L _) HM.out)
        cases rest with
        | nil =>
          have NX := Lib.hid (show ToR w L n v (.int .i64 ((t + 1 : Nat) : Int)) wr from ⟨t + 1, _, htn, rfl, rfl, by rw [told_next L HR.out, HT.out, hl, List.append_nil]; exact hv, hin, hb⟩)
          rw [show ((t + 1 : Nat) : Int) = (t : Int) + 1 by omega] at NX
          clear hv hin hb hl
          go_wp2
          go_roundw
          case rel => exact NX.out
          case measure => simp [intOf]; omega
        | cons e rest =>
          obtain ⟨x, k⟩ := e
          have sg := (H.out t _ HR.out).2.2
          rw [show ((ra, l) : Addr × List Sp).2 = l from rfl, hl, segP_mid] at sg
          obtain ⟨-, bk, -⟩ := sg
          obtain ⟨p, hp⟩ : ∃ p, fstP rest none = p := ⟨_, rfl⟩
          rw [hp] at bk
          have d0 : wr.cell? ⟨k, 0, none⟩ = some (.int .i64 x) := (bk.grew hb).cell 0
          have d3 : ∀ w9, Below w.heap.size w w9 → w9.cell? ⟨k, 3, none⟩ = some (.pointer p) := fun w9 hb9 => (bk.grew hb9).cell 3
          obtain ⟨a', c', rfl, hc1, hc2⟩ := hv.slice'
          obtain ⟨m, hmm⟩ : ∃ m, (T ++ nums dn).length = m := ⟨_, rfl⟩
          have hm1 : m + 1 ≤ 1000000 := by
            have h3 := LN.out
            rw [hl, List.length_append, nums_app, List.length_append] at h3
            rw [List.length_append] at hmm
            have : (nums ((x, k) :: rest)).length = rest.length + 1 := by simp [nums]
            omega
          have HL := Lib.hid hl; have V := Lib.hid hv; have NI := Lib.hid hin; have B := Lib.hid hb; have D3 := Lib.hid d3; have HP := Lib.hid hp
          rw [hmm] at V NI hc1 ⊢
          have HMM := Lib.hid hmm
          have hsp : fstP ((x, k) :: rest) none = some ⟨k, 0, none⟩ := rfl
          rw [hsp]
          clear hv hin hb hl d3 hp hmm bk hsp
          go_wp2_with (at_builtin; refine wpList_append_vec (E := Elem.ints) rfl (.tmp 21) (.tmp 26) 23 rfl 3 i0 (.int .i64 0) 8 Try.underlying23 hi hz0 hz1 hz2 rfl (.slice a' m c') (.slice (some ⟨wr.heap.size, 0, none⟩) 1 1) (T ++ nums dn) [x] rfl rfl (V.out.alloc _) (Seq.new wr _ [x] 1) ?_ ?_ ?_; (rw [HMM.out]; simp only [maxLen, List.length_cons, List.length_nil]; omega); (rw [HMM.out]; simp only [List.length_cons, List.length_nil]; omega); intro v8 w8 hv hu hin8; have V8 := Lib.hid hv; have U8 := Lib.hid hu; have N8 := Lib.hid hin8; have hb8 := (B.out.alloc B.out.size (.cells #[.int .i64 x] 3)).trans (hu.below (fun k hk => NI.out k hk) (by have := B.out.size; rw [World.size_alloc]; omega)); have B8 := Lib.hid hb8; have x3 : w8.cell? ⟨k, 3, none⟩ = some (.pointer p) := D3.out w8 hb8; clear hv hu hin8 hb8)
          have NX : Hid (InR w T l rest.length v8 (.pointer p) w8) := Lib.hid ⟨dn ++ [(x, k)], rest, _, by rw [HL.out]; simp, rfl, by rw [HP.out], rfl, by have := V8.out; rw [List.append_assoc] at this; rw [nums_app]; exact this, fun k9 hk => by
            rcases N8.out k9 hk with z | z
            · exact NI.out k9 z
            · rw [World.size_alloc] at z; have := B.out.size; omega, B8.out⟩
          go_roundg rest.length
          case measure => exact Nat.lt_succ_self _
          case rel => exact NX.out
    · obtain rfl : t = n := by omega
      have t2 : decide ((t : Int) < (t : Int)) = false := decide_eq_false (by omega)
      clear hv hin hb
      go_wp2
      go_ret
      refine ⟨_, rfl, ?_, NI.out, B.out⟩
      have := V.out
      rw [HN.out, List.take_length] at this
      exact this
end Go.Proofs.Ytolccandekgmoaa
