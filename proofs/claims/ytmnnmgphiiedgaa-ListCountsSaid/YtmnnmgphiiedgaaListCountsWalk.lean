/- The law ListCounts, walked. -/
import Derived.Test.YtmnnmgphiiedgaaList7
namespace Go.Proofs.Ytmnnmgphiiedgaa.listCounts
open Go.RowKit ListMath
set_option linter.unusedVariables false

def Counting7 (w w3 : World) (p g lp n : Nat) (IN : List Nat) (cnt i : Value) (wr : World) : Prop :=
  ∃ (j : Nat) (s : LS) (r : List Nat), j ≤ n ∧ i = .int .i64 (j : Int) ∧ cnt = .int .i64 (r.length : Int) ∧ (∀ x ∈ r, x ∈ IN.take j) ∧ r.length ≤ j ∧ s.L.length = 2048 ∧ Chain s.L s.h r ∧ s.n = (r.length : Int) ∧ One w p g lp s wr ∧ Upd (fun b => b = g ∨ b = lp) w3 wr
theorem push_one {w : World} (C : Li w) {s : LS} {r : List Nat} {x : Nat} (hc : Chain s.L s.h r) (hL : s.L.length = 2048) (h1 : x ≠ 0 ∧ x + 8 ≤ 2048) (h2 : ∀ b ∈ r, Apart8 x b) (hn : s.n = (r.length : Int)) (hr : r.length ≤ 120) :
    ∃ t : LS, Chain t.L t.h (x :: r) ∧ t.n = ((x :: r).length : Int) ∧ t.L.length = 2048 ∧ ∀ {p g lp : Nat} (w' : World), One w p g lp s w' → ∀ {a : Option Addr}, Seq Elem.u64s w' (.slice a 1 1) [x] → (∀ b, In (.slice a 1 1) b → b ≠ g ∧ b ≠ lp) →
      Calls Try.prog 24 #[.pointer (some ⟨lp, 0, none⟩), .pointer (some ⟨p, 0, none⟩), .slice a 1 1] w' fun e w2 => e = .returned (.int .i64 0) ∧ One w p g lp t w2 ∧ Upd (fun b => b = g ∨ b = lp) w' w2 := by
  obtain ⟨t, e1, e2, e3, e4⟩ := push_ok C (l := [x]) hc (by omega) (by intro a ha; rw [List.mem_singleton.1 ha, hL]; exact h1) (by intro a ha; rw [List.mem_singleton.1 ha]; exact h2) (List.pairwise_singleton _ _) ⟨by omega, by omega⟩ (by simp)
  exact ⟨t, e1, by rw [e2, hn]; simp, by omega, fun {p g lp} w' o {a} hq hne => e4 w' o hq hne (by decide) (by decide)⟩
set_option maxRecDepth 100000 in
set_option maxHeartbeats 4000000 in
theorem walk_of (w : World) (C : Li w) {a : Option Addr} {nn cap : Nat} (l : List Int) (h : NumsAt w .u8 (.slice a nn cap) l) {pa : Option Addr} {pn pcap : Nat} (pl : List Bool) (hp : FlagsAt w (.slice pa pn pcap) pl) :
    Calls Try.prog 9 #[.slice a nn cap, .slice pa pn pcap] w fun e w' => e = .returned (.bool true) ∧ Below w.heap.size w w' := by
  obtain ⟨L, hB⟩ := h.bytesIn
  have HBY := Lib.hid hB
  obtain ⟨hg1, hg2⟩ := blocks_good (l := L) (n := 2048) (by decide)
  have hle := blocksN_le L
  obtain ⟨IN, hIN⟩ : ∃ x, blocksN L = x := ⟨_, rfl⟩
  obtain ⟨n, hn⟩ : ∃ x, IN.length = x := ⟨_, rfl⟩
  rw [hIN] at hg1 hg2 hle
  rw [hn] at hle
  have HIN := Lib.hid hIN; have HN := Lib.hid hn; have HG1 := Lib.hid hg1; have HG2 := Lib.hid hg2
  have HPL := Lib.hid hp
  clear h hB hIN hn hg1 hg2 hp
  by_cases hp200 : 200 < pn
  · have t0 : decide ((200 : Int) < (pn : Int)) = true := decide_eq_true (by omega)
    go_enter Try.func9, Try.ntmps9
    go_wp2_with fail
    refine (alive_any _ C).mono ?_; rintro e w1 ⟨rfl, hb⟩
    have B1 := Lib.hid hb
    have s1 := B1.out.size
    clear hb
    go_wp2_with fail
    refine (new2048 _).mono ?_; rintro e w2 ⟨p, g, L0, rfl, hm, hL0, hlen, fp, fg, hb⟩
    have B2 := Lib.hid ((below_then B1.out s1 hb).alloc (Nat.le_trans s1 hb.size) (.cells #[.int .u64 0, .int .i64 0] 33))
    clear hb hm hL0 hlen fp fg
    go_wp2
    go_ret
    exact ⟨rfl, B2.out⟩
  have t0 : decide ((200 : Int) < (pn : Int)) = false := decide_eq_false (by omega)
  go_enter Try.func9, Try.ntmps9
  go_wp2_with fail
  refine (alive_any _ C).mono ?_; rintro e w1 ⟨rfl, hb⟩
  have B1 := Lib.hid hb
  have s1 := B1.out.size
  clear hb
  go_wp2_with fail
  refine (new2048 _).mono ?_; rintro e w2 ⟨p, g, L0, rfl, hm, hL0, hlen, fp, fg, hb⟩
  have B2 := Lib.hid (below_then B1.out s1 hb)
  have s2 := B2.out.size
  have O2 := Lib.hid (One.make hm (Nat.le_trans s1 fp) (Nat.le_trans s1 fg) B2.out)
  obtain ⟨lp, hlp⟩ : ∃ b, w2.heap.size = b := ⟨_, rfl⟩
  rw [hlp] at O2
  have HLEN := Lib.hid hlen
  have hgl := hm.row.lt
  clear hb hm hL0 hlen fp fg
  go_wp2_with fail
  refine (blocks_any _ (HBY.out.below O2.out.below)).mono ?_; rintro e w3 ⟨v, rfl, hv, hin, hb⟩
  obtain ⟨a', cap', rfl, hc1, hc2⟩ := hv.slice'
  rw [HIN.out, HN.out] at hv hin hc1
  rw [HIN.out, HN.out]
  have V3 := Lib.hid hv
  have O3 := Lib.hid (O2.out.grew hb)
  have hne : ∀ b, In (.slice a' n cap') b → b ≠ g ∧ b ≠ lp := fun b hb => by
    have h1 := hin b hb
    simp [hlp] at h1
    omega
  have HNE := Lib.hid hne
  have l3 := O3.out.lst.lt
  have l4 := O3.out.mem.row.lt
  clear hb hv hin hne hlp
  go_wp2
  go_loopw [9, 37] (fun cnt i wr => Counting7 w w3 p g lp n IN cnt i wr) (fun cnt i _ => n - (intOf i).toNat)
  case atStart => exact ⟨0, ⟨L0, 0, 0⟩, [], Nat.zero_le _, rfl, rfl, (by intro x hx; cases hx), Nat.le_refl _, HLEN.out, rfl, rfl, O3.out, Upd.refl _ _⟩
  case round =>
    obtain ⟨j, s, r, hj, rfl, rfl, hsub, hrj, hsL, hch, hsn, ho, hu⟩ := hrel
    have OR := Lib.hid ho; have UR := Lib.hid hu; have SUB := Lib.hid hsub
    have VR := V3.out.upd hu (fun b hb => by have := HNE.out b hb; rintro (h | h); exact this.1 h; exact this.2 h)
    obtain ⟨rl, hrl⟩ : ∃ x, r.length = x := ⟨_, rfl⟩
    have HRL := Lib.hid hrl
    have hrj2 : rl ≤ j := by omega
    by_cases hjl : j < n
    · obtain ⟨x, hx⟩ : ∃ x, IN[j]? = some x := ⟨IN[j]'(by rw [HN.out]; exact hjl), List.getElem?_eq_getElem _⟩
      have hxm := List.mem_of_getElem? hx
      have hap : ∀ b ∈ r, Apart8 x b := fun b hb => by
        have hbm := SUB.out b hb
        obtain ⟨i, hi, e⟩ := List.mem_iff_getElem.1 hbm
        rw [List.length_take] at hi
        rw [List.getElem_take] at e
        have hjL : j < IN.length := by rw [HN.out]; exact hjl
        have e2 : IN[j]'hjL = x := by have := List.getElem?_eq_getElem hjL; rw [hx] at this; injection this with this; exact this.symm
        have := List.pairwise_iff_getElem.1 HG2.out i j (by omega) hjL (by omega)
        rw [e, e2] at this
        unfold Apart8 at this ⊢; omega
      obtain ⟨t, hct, htn, htL, hpush⟩ := push_one C hch hsL (HG1.out x hxm) hap hsn (by omega)
      have HPU := Lib.hid (fun (w' : World) (o : One w p g lp s w') (a : Option Addr) => hpush (p := p) (g := g) (lp := lp) w' o (a := a))
      have HCT := Lib.hid hct; have HTN := Lib.hid htn; have HTL := Lib.hid htL
      obtain ⟨m, hm⟩ : ∃ m, rl + 1 = m := ⟨_, rfl⟩
      have hlenx : (x :: r).length = m := by rw [List.length_cons, hrl]; exact hm
      have HLX := Lib.hid hlenx
      have em : (rl : Int) + 1 = (m : Int) := by omega
      have em2 : (m : Int) - 1 = (rl : Int) := by omega
      have hmb : m ≤ 121 := by omega
      have hall := fun w' o => all_ok C (s := t) hct (by omega) htn (by rw [htL, hlenx]; omega) (p := p) (g := g) (lp := lp) w' o
      rw [hlenx] at hall
      have HALL := Lib.hid hall
      obtain ⟨u, hcu, hun, huL, hpop⟩ := pop_ok C hct (by omega) (by rw [htn]; simp) (by omega)
      have HPO := Lib.hid (fun (w' : World) (o : One w p g lp t w') => hpop (p := p) (g := g) (lp := lp) w' o)
      have hall2 := fun w' o => all_ok C (s := u) hcu (by rw [huL]; omega) hun (by rw [huL, htL]; omega) (p := p) (g := g) (lp := lp) w' o
      rw [hrl] at hall2 hun
      have HALL2 := Lib.hid hall2
      have HCU := Lib.hid hcu; have HUN := Lib.hid hun; have HUL := Lib.hid (huL)
      rw [hlenx] at htn
      have HTN2 := Lib.hid htn
      obtain ⟨b2, off2, e2, hcell2⟩ := VR.seq.elem hx
      subst e2
      have d0 := hcell2 0 (.int .u64 (x : Int)) rfl
      simp only [Elem.u64s, Nat.add_zero, Nat.mul_one] at d0
      have HX := Lib.hid hx
      have hsub2 : ∀ y ∈ x :: r, y ∈ IN.take (j + 1) := fun y hy => by
        rw [List.take_add_one, hx]
        rcases List.mem_cons.1 hy with rfl | hy
        · simp
        · exact List.mem_append_left _ (SUB.out y hy)
      have HSUB2 := Lib.hid hsub2
      have j0 : (0 : Int) ≤ (j : Int) := by omega
      have j1 : (j : Int) < (n : Int) := by omega
      have q2 : decide ((j : Int) < (n : Int)) = true := decide_eq_true (by omega)
      have gr := OR.out.mem.row.lt
      have lr := OR.out.lst.lt
      rw [hrl]
      clear VR hcell2 hx hxm hap hct htn htL hpush hlenx hall hcu hun huL hpop hall2 hsub hsL hch hsn ho hu hsub2 hrl hm
      go_wp2_with fail
      refine (HPU.out _ (OR.out.alloc _) _ (u64_oneAt wr _ x _ rfl) (fun b hb => by have := in_blk hb; omega)).mono ?_; rintro e w4 ⟨rfl, ho, hu⟩
      have O4 := Lib.hid ho
      have U4 := Lib.hid ((UR.out.alloc (.cells #[.int .u64 (x : Int)] 28)).trans hu)
      clear ho hu d0
      -- is it popped?
      have hcase : (decide ((j : Int) < (pn : Int)) = false ∧ decide (j < pn) = false) ∨ (decide ((j : Int) < (pn : Int)) = true ∧ decide (j < pn) = true ∧ j < pn) := by
        by_cases h : j < pn
        · exact Or.inr ⟨decide_eq_true (by omega), decide_eq_true h, h⟩
        · exact Or.inl ⟨decide_eq_false (by omega), decide_eq_false h⟩
      have tn : ∀ z : Nat, ((z : Int) != (z : Int)) = false := fun z => by simp
      have tm := tn m
      have tl := tn rl
      have tx := tn x
      clear tn
      rcases hcase with ⟨q3, q3'⟩ | ⟨q3, q3', hjp⟩
      · go_wp2_with fail
        refine (HALL.out _ O4.out).mono ?_; rintro e w5 ⟨a5, cap5, rfl, hq5, hd1, hd2, hin5, hb⟩
        have O5 := Lib.hid (O4.out.grew hb)
        have U5 := Lib.hid (U4.out.trans ((updFalse_of hb).mono (fun _ h => h.elim)))
        have c1 : w5.cell? ⟨lp, 1, none⟩ = some (.int .i64 (m : Int)) := by rw [← HTN2.out]; exact O5.out.lst.cell 1
        clear hb hq5 hin5
        go_wp2
        go_roundw
        case rel => exact ⟨j + 1, t, x :: r, by omega, by go_num, by rw [HLX.out], HSUB2.out, by rw [HLX.out]; omega, HTL.out, HCT.out, by rw [HTN2.out, HLX.out], O5.out, U5.out⟩
        case measure => simp [intOf]; omega
      · have hfl := HPL.out.below (Nat.le_refl _) O4.out.below
        obtain ⟨pa', pcap', epl, _, _, _, hcl⟩ := hfl
        injection epl with ea en ec
        obtain ⟨b3, off3, e3, hc3⟩ := hcl j (by omega)
        rw [← ea] at e3
        subst e3
        obtain ⟨y, hy⟩ : ∃ y, pl.getD j false = y := ⟨_, rfl⟩
        rw [hy] at hc3
        have k1 : (j : Int) < (pn : Int) := by omega
        clear hcl ea en ec hy
        cases y with
        | false =>
          go_wp2_with fail
          refine (HALL.out _ O4.out).mono ?_; rintro e w5 ⟨a5, cap5, rfl, hq5, hd1, hd2, hin5, hb⟩
          have O5 := Lib.hid (O4.out.grew hb)
          have U5 := Lib.hid (U4.out.trans ((updFalse_of hb).mono (fun _ h => h.elim)))
          have c1 : w5.cell? ⟨lp, 1, none⟩ = some (.int .i64 (m : Int)) := by rw [← HTN2.out]; exact O5.out.lst.cell 1
          clear hb hq5 hin5
          go_wp2
          go_roundw
          case rel => exact ⟨j + 1, t, x :: r, by omega, by go_num, by rw [HLX.out], HSUB2.out, by rw [HLX.out]; omega, HTL.out, HCT.out, by rw [HTN2.out, HLX.out], O5.out, U5.out⟩
          case measure => simp [intOf]; omega
        | true =>
          go_wp2_with fail
          refine (HALL.out _ O4.out).mono ?_; rintro e w5 ⟨a5, cap5, rfl, hq5, hd1, hd2, hin5, hb⟩
          have O5 := Lib.hid (O4.out.grew hb)
          have U5 := Lib.hid (U4.out.trans ((updFalse_of hb).mono (fun _ h => h.elim)))
          have Q5 := Lib.hid hq5; have N5 := Lib.hid hin5
          have g4 := O4.out.mem.row.lt
          have l4' := O4.out.lst.lt
          clear hb hq5 hin5
          go_wp2_with fail
          refine (HPO.out _ O5.out).mono ?_; rintro e w6 ⟨rfl, ho, hu⟩
          have O6 := Lib.hid ho
          have U6 := Lib.hid (U5.out.trans (hu.mono (fun b h => Or.inr h)))
          have Q6 := Q5.out.upd hu (fun b hb => by have := N5.out b hb; omega)
          obtain ⟨b5, off5, e5, hcell5⟩ := Q6.elem (i := 0) (x := x) rfl
          subst e5
          have d5 := hcell5 0 (.int .u64 (x : Int)) rfl
          simp only [Elem.u64s, Nat.add_zero, Nat.zero_mul] at d5
          clear ho hu Q6 hcell5
          go_wp2_with fail
          refine (HALL2.out _ O6.out).mono ?_; rintro e w7 ⟨a7, cap7, rfl, hq7, hd3, hd4, hin7, hb⟩
          have O7 := Lib.hid (O6.out.grew hb)
          have U7 := Lib.hid (U6.out.trans ((updFalse_of hb).mono (fun _ h => h.elim)))
          have c1 : w7.cell? ⟨lp, 1, none⟩ = some (.int .i64 (rl : Int)) := by rw [← HUN.out]; exact O7.out.lst.cell 1
          clear hb hq7 hin7 d5
          go_wp2
          go_roundw
          case rel => exact ⟨j + 1, u, r, by omega, by go_num, by rw [HRL.out], fun y hy => HSUB2.out y (List.mem_cons_of_mem _ hy), by omega, by rw [HUL.out]; exact HTL.out, HCU.out, by rw [HUN.out, HRL.out], O7.out, U7.out⟩
          case measure => simp [intOf]; omega
    · have q2 : decide ((j : Int) < (n : Int)) = false := decide_eq_false (by omega)
      go_wp2
      go_ret
      exact ⟨rfl, OR.out.below⟩
end Go.Proofs.Ytmnnmgphiiedgaa.listCounts
