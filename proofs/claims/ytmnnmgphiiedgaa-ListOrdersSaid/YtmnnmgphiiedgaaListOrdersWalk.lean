/- The law ListOrders, walked. -/
import Derived.Test.YtmnnmgphiiedgaaList7
namespace Go.Proofs.Ytmnnmgphiiedgaa.listOrders
open Go.RowKit ListMath
set_option linter.unusedVariables false

/-- So many were popped. -/
def Popping (w w5 : World) (p g lp : Nat) (n : Nat) (R : List Nat) (L1 : List Nat) (i : Value) (wr : World) : Prop :=
  ∃ (j : Nat) (s : LS), j ≤ n ∧ i = .int .i64 (j : Int) ∧ s.L = L1 ∧ Chain s.L s.h (R.drop j) ∧ s.n = ((R.drop j).length : Int) ∧ One w p g lp s wr ∧ Upd (fun b => b = lp) w5 wr
set_option maxRecDepth 100000 in
set_option maxHeartbeats 2000000 in
theorem walk_of (w : World) (C : Li w) {a : Option Addr} {nn cap : Nat} (l : List Int) (h : NumsAt w .u8 (.slice a nn cap) l) :
    Calls Try.prog 4 #[.slice a nn cap] w fun e w' => e = .returned (.bool true) ∧ Below w.heap.size w w' := by
  obtain ⟨L, hB⟩ := h.bytesIn
  have HBY := Lib.hid hB
  obtain ⟨hg1, hg2⟩ := blocks_good (l := L) (n := 2048) (by decide)
  have hle := blocksN_le L
  obtain ⟨IN, hIN⟩ : ∃ x, blocksN L = x := ⟨_, rfl⟩
  obtain ⟨n, hn⟩ : ∃ x, IN.length = x := ⟨_, rfl⟩
  rw [hIN] at hg1 hg2 hle
  rw [hn] at hle
  have HIN := Lib.hid hIN; have HN := Lib.hid hn; have HG1 := Lib.hid hg1; have HG2 := Lib.hid hg2
  clear h hB hIN hn hg1 hg2
  go_enter Try.func4, Try.ntmps4
  go_wp2_with fail
  refine (alive_any _ C).mono ?_; rintro e w1 ⟨rfl, hb⟩
  have B1 := Lib.hid hb
  have s1 := B1.out.size
  clear hb
  go_wp2_with fail
  refine (new2048 _).mono ?_; rintro e w2 ⟨p, g, L0, rfl, hm, hL0, hlen, fp, fg, hb⟩
  have B2 := Lib.hid (below_then B1.out s1 hb)
  have M2 := Lib.hid hm
  have s2 := B2.out.size
  have hp : w.heap.size ≤ p := Nat.le_trans s1 fp
  have hg : w.heap.size ≤ g := Nat.le_trans s1 fg
  have HLEN := Lib.hid hlen
  have hgl := hm.row.lt
  clear hb hm hL0 hlen
  go_wp2_with fail
  refine (blocks_any w2 (HBY.out.below B2.out)).mono ?_; rintro e w3 ⟨v, rfl, hv, hin, hb⟩
  obtain ⟨a', cap', rfl, hc1, hc2⟩ := hv.slice'
  rw [HIN.out, HN.out] at hv hin hc1
  rw [HIN.out, HN.out]
  have V3 := Lib.hid hv; have N3 := Lib.hid hin
  have B3 := Lib.hid (below_then B2.out s2 hb)
  have M3 := Lib.hid (M2.out.upd (updFalse_of hb) id id)
  have O3 := Lib.hid (One.make M3.out hp hg B3.out)
  obtain ⟨lp, hlp⟩ : ∃ b, w3.heap.size = b := ⟨_, rfl⟩
  rw [hlp] at O3
  obtain ⟨t1, hch, hcn, hcl, hpush⟩ := push_ok C (s := ⟨L0, 0, 0⟩) (r := []) (l := IN) rfl (by show L0.length ≤ _; rw [HLEN.out]; decide) (by intro a ha; show a ≠ 0 ∧ a + 8 ≤ L0.length; rw [HLEN.out]; exact HG1.out a ha) (by intro a _ b hb; cases hb) HG2.out (by show CntB 0; decide) (by rw [HN.out]; omega)
  rw [List.append_nil] at hch
  have HCH := Lib.hid hch
  have hlt1 : t1.L.length = 2048 := hcl.trans HLEN.out
  have HCN : Hid (t1.n = (n : Int)) := Lib.hid (by rw [hcn, HN.out]; show (0 : Int) + _ = _; omega)
  have HLT := Lib.hid hlt1
  have HPU := Lib.hid (fun (w' : World) (o : One w p g lp ⟨L0, 0, 0⟩ w') => hpush (p := p) (g := g) (lp := lp) w' o (a := a') (k := n) (cap := cap'))
  have VS := Lib.hid ((V3.out.alloc (.cells #[.int .u64 0, .int .i64 0] 33)).seq)
  have hne : ∀ b, In (.slice a' n cap') b → b ≠ g ∧ b ≠ lp := fun b hb => by
    have h1 := N3.out b hb
    have h2 := V3.out.lt hb
    omega
  have HNE := Lib.hid hne
  clear hb hv hin hch hcn hcl hpush hlt1 hne
  go_wp2_with fail
  refine (HPU.out _ O3.out VS.out HNE.out hc1 hc2).mono ?_; rintro e w4 ⟨rfl, ho, hu⟩
  have O4 := Lib.hid ho
  have V4 := Lib.hid ((V3.out.alloc (.cells #[.int .u64 0, .int .i64 0] 33)).upd hu (fun b hb => by have := HNE.out b hb; rintro (h | h); exact this.1 h; exact this.2 h))
  have c1 : w4.cell? ⟨lp, 1, none⟩ = some (.int .i64 (n : Int)) := by rw [← HCN.out]; exact O4.out.lst.cell 1
  have tn : ((n : Int) != (n : Int)) = false := by simp
  clear ho hu hlp
  go_wp2_with fail
  have hrl : IN.reverse.length = n := by rw [List.length_reverse, HN.out]
  have HRL := Lib.hid hrl
  have hA := all_ok C (s := t1) HCH.out (by rw [HLT.out]; decide) (by rw [HCN.out, HRL.out]) (by rw [HLT.out, HRL.out]; omega) (p := p) (g := g) (lp := lp) w4 O4.out
  rw [hrl] at hA
  have HA := Lib.hid hA
  clear hrl hA c1 tn
  refine HA.out.mono ?_; rintro e w5 ⟨a5, cap5, rfl, hq5, hd1, hd2, hin5, hb⟩
  have O5 := Lib.hid (O4.out.grew hb)
  have Q5 := Lib.hid hq5; have N5 := Lib.hid hin5
  have V5 := Lib.hid (V4.out.upd (updFalse_of hb) (fun _ _ => id))
  have l4 := O4.out.lst.lt
  clear hb hq5 hin5
  go_wp2
  go_loopw [44] (fun i wr => Popping w w5 p g lp n IN.reverse t1.L i wr) (fun i _ => n - (intOf i).toNat)
  case atStart => exact ⟨0, t1, Nat.zero_le _, rfl, rfl, HCH.out, by rw [HCN.out, List.drop_zero, HRL.out], O5.out, Upd.refl _ _⟩
  case round =>
    obtain ⟨j, s, hj, rfl, hsL, hch, hsn, ho, hu⟩ := hrel
    have OR := Lib.hid ho; have UR := Lib.hid hu; have HSL := Lib.hid hsL
    have hdl : (IN.reverse.drop j).length = n - j := by rw [List.length_drop, HRL.out]
    rw [hdl] at hsn
    by_cases hjl : j < n
    · obtain ⟨x, hx⟩ : ∃ x, IN.reverse[j]? = some x := ⟨IN.reverse[j]'(by rw [HRL.out]; exact hjl), List.getElem?_eq_getElem _⟩
      have hdr : IN.reverse.drop j = x :: IN.reverse.drop (j + 1) := by
        obtain ⟨hl, e⟩ := List.getElem?_eq_some_iff.1 hx
        rw [List.drop_eq_getElem_cons hl, e]
      rw [hdr] at hch
      have hdl2 : (IN.reverse.drop (j + 1)).length = n - (j + 1) := by rw [List.length_drop, HRL.out]
      obtain ⟨t, hct, htn, htL, hpop⟩ := pop_ok C hch (by rw [HSL.out, HLT.out]; decide) (by rw [hsn, hdl2]; omega) (by rw [hdl2]; omega)
      have HP := Lib.hid (hpop wr OR.out)
      have HCT := Lib.hid hct; have HTN := Lib.hid htn; have HTL := Lib.hid htL
      -- in[n - 1 - j] and all[j]
      have hx2 : IN[n - 1 - j]? = some x := by
        have h1 : j < IN.length := by rw [HN.out]; exact hjl
        rw [List.getElem?_reverse h1] at hx
        rw [← HN.out]; exact hx
      obtain ⟨k, hk⟩ : ∃ k, n - 1 - j = k := ⟨_, rfl⟩
      rw [hk] at hx2
      have HX := Lib.hid hx; have HX2 := Lib.hid hx2
      have ek : (n : Int) - 1 - (j : Int) = (k : Int) := by omega
      have k0 : (0 : Int) ≤ (k : Int) := by omega
      have k1 : (k : Int) < (n : Int) := by omega
      have j0 : (0 : Int) ≤ (j : Int) := by omega
      have j1 : (j : Int) < (n : Int) := by omega
      have q2 : decide ((j : Int) < (n : Int)) = true := decide_eq_true (by omega)
      have tx : ((x : Int) != (x : Int)) = false := by simp
      clear hch hx hx2 hdr hdl hdl2 hct htn htL hpop hsL ho hu hsn hk
      go_wp2_with fail
      refine HP.out.mono ?_; rintro e w6 ⟨rfl, ho, hu⟩
      have O6 := Lib.hid ho
      have U6 := Lib.hid (UR.out.trans hu)
      have V6 := V5.out.upd U6.out (fun b hb => (HNE.out b hb).2)
      have Q6 := Q5.out.upd U6.out (fun b hb => by have := N5.out b hb; omega)
      obtain ⟨b2, off2, e2, hcell2⟩ := V6.seq.elem HX2.out
      obtain ⟨b3, off3, e3, hcell3⟩ := Q6.elem HX.out
      subst e2 e3
      have d0 := hcell2 0 (.int .u64 (x : Int)) rfl
      have d1 := hcell3 0 (.int .u64 (x : Int)) rfl
      simp only [Elem.u64s, Nat.add_zero, Nat.mul_one] at d0 d1
      clear ho hu V6 Q6 hcell2 hcell3
      go_wp2
      go_roundw
      case rel => exact ⟨j + 1, t, by omega, by go_num, HTL.out.trans HSL.out, HCT.out, by rw [HTN.out], O6.out, U6.out⟩
      case measure => simp [intOf]; omega
    · have hjn : j = n := by omega
      have q2 : decide ((j : Int) < (n : Int)) = false := decide_eq_false (by omega)
      have hsn0 : s.n = 0 := by omega
      have hd0 : IN.reverse.drop j = [] := List.drop_eq_nil_of_le (by rw [HRL.out]; omega)
      rw [hd0] at hch
      have hh0 : s.h = 0 := hch
      have HP := Lib.hid (pop_none C hsn0 (by omega) wr OR.out)
      have HS0 := Lib.hid hsn0; have HH0 := Lib.hid hh0
      clear hch hd0 hdl hsL ho hu hsn hsn0 hh0
      go_wp2_with fail
      refine HP.out.mono ?_; rintro e w6 ⟨rfl, ho, hu⟩
      have c0 : w6.cell? ⟨lp, 0, none⟩ = some (.int .u64 0) := by have := ho.lst.cell 0; rw [HH0.out] at this; exact this
      have c1 : w6.cell? ⟨lp, 1, none⟩ = some (.int .i64 0) := by have := ho.lst.cell 1; rw [HS0.out] at this; exact this
      have B6 := Lib.hid ho.below
      clear ho hu
      go_wp2
      go_ret
      exact ⟨rfl, B6.out⟩
end Go.Proofs.Ytmnnmgphiiedgaa.listOrders
