/- The law ListChains, walked. -/
import Derived.Test.YtmnnmgphiiedgaaRing
import Derived.Test.YtmnnmgphiiedgaaTwo7
import Derived.Deep.RegionHeld3
namespace Go.Proofs.Ytmnnmgphiiedgaa.listChains
open Go.RowKit ListMath
set_option linter.unusedVariables false

set_option maxRecDepth 100000 in
set_option maxHeartbeats 4000000 in
theorem walk_of (w : World) (C : Li w) {a : Option Addr} {nn cap : Nat} (l : List Int) (h : NumsAt w .u8 (.slice a nn cap) l) (fr : Int) (hfw : (Lit.int .u8 fr).wf = true) :
    Calls Try.prog 6 #[.slice a nn cap, .int .u8 fr] w fun e w' => e = .returned (.bool true) ∧ Below w.heap.size w w' := by
  obtain ⟨L, hB⟩ := h.bytesIn
  have HBY := Lib.hid hB
  obtain ⟨ef, hfr⟩ := u8_of hfw
  obtain ⟨ff, hff⟩ : ∃ x, fr.toNat = x := ⟨_, rfl⟩
  rw [hff] at ef hfr
  subst ef
  obtain ⟨hg1, hg2⟩ := blocks_good (l := L) (n := 2048) (by decide)
  have hle := blocksN_le L
  obtain ⟨IN, hIN⟩ : ∃ x, blocksN L = x := ⟨_, rfl⟩
  obtain ⟨n, hn⟩ : ∃ x, IN.length = x := ⟨_, rfl⟩
  rw [hIN] at hg1 hg2 hle
  rw [hn] at hle
  have HIN := Lib.hid hIN; have HN := Lib.hid hn; have HG1 := Lib.hid hg1; have HG2 := Lib.hid hg2
  clear h hB hIN hn hg1 hg2 hff hfw
  go_enter Try.func6, Try.ntmps6
  go_wp2_with fail
  refine (alive_any _ C).mono ?_; rintro e w1 ⟨rfl, hb⟩
  have B1 := Lib.hid hb
  have s1 := B1.out.size
  clear hb
  go_wp2_with fail
  refine (new2048 _).mono ?_; rintro e w2 ⟨p, g, L0, rfl, hm, hL0, hlen, fp, fg, hb⟩
  have B2 := Lib.hid (below_then B1.out s1 hb)
  have M2 := Lib.hid hm
  have s2 := B2.out.size
  have hp : w.heap.size ≤ p := Nat.le_trans s1 fp
  have hg : w.heap.size ≤ g := Nat.le_trans s1 fg
  have HLEN := Lib.hid hlen
  have hgl := hm.row.lt
  clear hb hm hL0 hlen
  go_wp2_with fail
  refine (blocks_any w2 (HBY.out.below B2.out)).mono ?_; rintro e w3 ⟨v, rfl, hv, hin, hb⟩
  obtain ⟨a', cap', rfl, hc1, hc2⟩ := hv.slice'
  rw [HIN.out, HN.out] at hv hin hc1
  rw [HIN.out, HN.out]
  have V3 := Lib.hid hv; have N3 := Lib.hid hin
  have B3 := Lib.hid (below_then B2.out s2 hb)
  have M3 := Lib.hid (M2.out.upd (updFalse_of hb) id id)
  have O3 := Lib.hid (One.make M3.out hp hg B3.out)
  obtain ⟨lp, hlp⟩ : ∃ b, w3.heap.size = b := ⟨_, rfl⟩
  rw [hlp] at O3
  obtain ⟨⟨L1, hd, n1⟩, hch, hcn, hcl, hpush⟩ := push_ok C (s := ⟨L0, 0, 0⟩) (r := []) (l := IN) rfl (by show L0.length ≤ _; rw [HLEN.out]; decide) (by intro a ha; show a ≠ 0 ∧ a + 8 ≤ L0.length; rw [HLEN.out]; exact HG1.out a ha) (by intro a _ b hb; cases hb) HG2.out (by show CntB 0; decide) (by rw [HN.out]; omega)
  rw [List.append_nil] at hch
  obtain ⟨R, hR⟩ : ∃ R, IN.reverse = R := ⟨_, rfl⟩
  rw [hR] at hch
  simp only [] at hch hcn hcl
  have hn1 : n1 = (n : Int) := by rw [hcn, HN.out]; omega
  subst hn1
  have hlt1 : L1.length = 2048 := hcl.trans HLEN.out
  have hrl : R.length = n := by rw [← hR, List.length_reverse, HN.out]
  have hrp : R.Pairwise Apart8 := by
    rw [← hR, List.pairwise_reverse]
    exact HG2.out.imp (fun h => by unfold Apart8 at h ⊢; omega)
  have hhd : hd ≤ 1048576 := hch.head_le (by rw [hlt1]; decide)
  have HCH := Lib.hid hch; have HLT := Lib.hid hlt1; have HR := Lib.hid hR; have HRL := Lib.hid hrl; have HRP := Lib.hid hrp
  have HPU := Lib.hid (fun (w' : World) (o : One w p g lp ⟨L0, 0, 0⟩ w') => hpush (p := p) (g := g) (lp := lp) w' o (a := a') (k := n) (cap := cap'))
  have VS := Lib.hid ((V3.out.alloc (.cells #[.int .u64 0, .int .i64 0] 33)).seq)
  have hne : ∀ b, In (.slice a' n cap') b → b ≠ g ∧ b ≠ lp := fun b hb => by
    have h1 := N3.out b hb
    have h2 := V3.out.lt hb
    omega
  have HNE := Lib.hid hne
  have C0 := Lib.hid (fun (w' : World) (o : One w p g lp ⟨L1, hd, (n : Int)⟩ w') => chain_some C (L := L1) (h := 0) (m := 0) (D := []) (rowF_zero _ _) (by decide) (by decide) (by decide) w' o.below o.mem)
  clear hb hv hin hch hcn hcl hpush hlt1 hne hR hrl hrp
  go_wp2_with fail
  refine (HPU.out _ O3.out VS.out HNE.out hc1 hc2).mono ?_; rintro e w4 ⟨rfl, ho, hu⟩
  have O4 := Lib.hid ho
  have V4 := Lib.hid ((V3.out.alloc (.cells #[.int .u64 0, .int .i64 0] 33)).upd hu (fun b hb => by have := HNE.out b hb; rintro (h | h); exact this.1 h; exact this.2 h))
  clear ho hu hlp
  go_wp2_with fail
  refine (C0.out _ O4.out).mono ?_; rintro e w5 ⟨rfl, hb⟩
  have O5 := Lib.hid (O4.out.grew hb)
  have V5 := Lib.hid (V4.out.upd (updFalse_of hb) (fun _ _ => id))
  clear hb C0 HPU VS
  by_cases hn0 : n = 0
  · subst hn0
    have t1 : (((0 : Nat) : Int) == 0) = true := by decide
    go_wp2
    go_ret
    exact ⟨rfl, (O5.out.alloc _).below⟩
  · have t1 : ((n : Int) == 0) = false := by rw [beq_eq_false_iff_ne]; omega
    have z2 : ¬ ((n : Int) = 0) := by omega
    obtain ⟨k, hk⟩ : ∃ k, ff % n = k := ⟨_, rfl⟩
    have hkn : k < n := by rw [← hk]; exact Nat.mod_lt _ (by omega)
    obtain ⟨m1, m2⟩ := mod_of hk
    obtain ⟨k1, hk1⟩ : ∃ x, k + 1 = x := ⟨_, rfl⟩
    have e1 : (k : Int) + 1 = (k1 : Int) := by omega
    obtain ⟨kk, hkk⟩ : ∃ x, n - 1 - k = x := ⟨_, rfl⟩
    obtain ⟨nz, hnz⟩ : ∃ x, n - 1 = x := ⟨_, rfl⟩
    have hnz' : n = nz + 1 := by omega
    -- the k-th and the first
    obtain ⟨x, hx⟩ : ∃ x, IN[k]? = some x := ⟨IN[k]'(by rw [HN.out]; exact hkn), List.getElem?_eq_getElem _⟩
    obtain ⟨z, hz⟩ : ∃ z, IN[0]? = some z := ⟨IN[0]'(by rw [HN.out]; omega), List.getElem?_eq_getElem _⟩
    have hrx : R[kk]? = some x := by rw [← HR.out, List.getElem?_reverse (by rw [HN.out]; omega), HN.out, show n - 1 - kk = k by omega]; exact hx
    have hrz : R[nz]? = some z := by rw [← HR.out, List.getElem?_reverse (by rw [HN.out]; omega), HN.out, show n - 1 - nz = 0 by omega]; exact hz
    have hDC := HCH.out.drop kk x hrx
    obtain ⟨D, hD⟩ : ∃ D, R.drop kk = D := ⟨_, rfl⟩
    have hDl : D.length = k1 := by rw [← hD, List.length_drop, HRL.out]; omega
    have hD0 : D[0]? = some x := by rw [← hD, List.getElem?_drop]; exact hrx
    have hDk : D[k]? = some z := by rw [← hD, List.getElem?_drop, show kk + k = nz by omega]; exact hrz
    rw [hD] at hDC
    have hx8 := HG1.out x (List.mem_of_getElem? hx)
    have hz8 := HG1.out z (List.mem_of_getElem? hz)
    have e2 : chainN L1 x (k1 : Int) = some D := chainN_some hDC (by rw [hDl]) (by rw [hDl, HLT.out]; omega)
    have e3 : chainN L1 x (k : Int) = none := chainN_short hDC (by omega) (by rw [hDl]; omega)
    have CK := Lib.hid (fun (w' : World) (o : One w p g lp ⟨L1, hd, (n : Int)⟩ w') => chain_some C e2 (by show x ≤ _; omega) (by omega) (by omega) w' o.below o.mem)
    have CS := Lib.hid (fun (w' : World) (o : One w p g lp ⟨L1, hd, (n : Int)⟩ w') => chain_none C e3 (by show x ≤ _; omega) (by omega) (by omega) w' o.below o.mem)
    rw [hDl] at CK
    have CA := Lib.hid (fun (w' : World) (o : One w p g lp ⟨L1, hd, (n : Int)⟩ w') (bc : Nat) (hbc : Blk w' bc 33 (lsC x (k1 : Int))) => all_at C hDC (by rw [HLT.out]; decide) (by rw [hDl]) (by rw [hDl, HLT.out]; omega) w' o.below o.mem hbc)
    rw [hDl] at CA
    -- the ring
    have hring := ring_none HCH.out HRP.out (by rw [HRL.out]; exact hnz') hrz (by omega)
    obtain ⟨L2, hL2⟩ : ∃ x, MemMath.put8 L1 z hd = x := ⟨_, rfl⟩
    rw [hL2] at hring
    have hl2 : L2.length = 2048 := by rw [← hL2, MemMath.length_put8 (by rw [HLT.out]; exact hz8.2), HLT.out]
    have e4 : chainN L2 hd 100000 = none := hring _
    have e5 : allN ⟨L2, hd, (n : Int)⟩ = none := by unfold allN; rw [if_neg (by show ¬ (n : Int) < 0; omega)]; simp only [hring]
    have CR := Lib.hid (fun (w' : World) (o : One w p g lp ⟨L2, hd, (n : Int)⟩ w') => chain_none C e4 (by show hd ≤ _; omega) (by decide) (by decide) w' o.below o.mem)
    have AR : Hid (∀ w', One w p g lp ⟨L2, hd, (n : Int)⟩ w' → Calls Try.prog 15 #[.pointer (some ⟨lp, 0, none⟩), .pointer (some ⟨p, 0, none⟩)] w' fun e w2 => ∃ a k cap, e = .returned (.tuple #[.slice a k cap, .int .i64 3]) ∧ Below w'.heap.size w' w2) := Lib.hid (fun w' o => by
      have := C.all w' o.below (s := ⟨L2, hd, (n : Int)⟩) o.mem o.lst (by show hd ≤ _; omega) ⟨by show 0 ≤ (n : Int); omega, by show (n : Int) ≤ _; omega⟩
      rw [e5] at this
      exact this.mono fun e w2 ⟨a, k, cap, h1, h2, h3, h4, h5, h6⟩ => ⟨a, k, cap, h1, h6⟩)
    have ST : Hid (∀ w', One w p g lp ⟨L1, hd, (n : Int)⟩ w' → Calls Try.prog 20 #[.pointer (some ⟨p, 0, none⟩), .int .u64 (z : Int), .int .i64 8, .int .u64 (hd : Int)] w' fun e w2 => e = .returned (.int .i64 0) ∧ One w p g lp ⟨L2, hd, (n : Int)⟩ w2 ∧ Upd (fun b => b = g) w' w2) := Lib.hid (fun w' o => by
      have := store_ok o.mem z 8 hd (Or.inr (Or.inr (Or.inr rfl))) (by omega) (by omega) (by show z + 8 ≤ L1.length; rw [HLT.out]; exact hz8.2)
      refine this.mono fun e w2 ⟨h1, h2, h3⟩ => ⟨h1, o.turn (t := ⟨L2, hd, (n : Int)⟩) ?_ (o.lst.upd h3 (o.mem.pnl o.lst).2) h3 (fun b h => Or.inl h), h3⟩
      have h4 : IsMem w2 p g (MemMath.put8 L1 z hd) := h2
      rw [hL2] at h4
      exact h4)
    have HX := Lib.hid hx; have HZ := Lib.hid hz; have HD0 := Lib.hid hD0; have HDK := Lib.hid hDk
    have hxb : x ≤ 2048 := by omega
    have hzb : z ≤ 2048 := by omega
    clear hk hkk hrx hrz hDC hD hx8 hz8 e2 e3 hring hL2 hl2 e4 e5 hx hz hD0 hDk hn0 hnz hnz' hDl hk1
    -- in[k], in[0], at any world
    have O5a := Lib.hid (O5.out.alloc (.cells #[.int .u64 0, .int .i64 0] 33))
    have V5a := Lib.hid (V5.out.alloc (.cells #[.int .u64 0, .int .i64 0] 33))
    obtain ⟨b2, off2, rfl, hcell⟩ := V5a.out.seq.elem HX.out
    have d0 := hcell 0 (.int .u64 (x : Int)) rfl
    obtain ⟨b3, off3, eb, hcell0⟩ := V5a.out.seq.elem HZ.out
    injection eb with eb
    injection eb with eb1 eb2 _
    subst eb1 eb2
    have d1 := hcell0 0 (.int .u64 (z : Int)) rfl
    simp only [Elem.u64s, Nat.add_zero, Nat.mul_one] at d0 d1
    have D0 := Lib.hid d0; have D1 := Lib.hid d1
    have hb2g := HNE.out b2 rfl
    have hb2l : b2 < (w5.alloc (.cells #[.int .u64 0, .int .i64 0] 33)).heap.size := World.block_lt_of_cell? _ _ d0
    have BL2 := Lib.hid hb2l
    have k0 : (0 : Int) ≤ (k : Int) := by omega
    have kn : (k : Int) < (n : Int) := by omega
    have n0 : (0 : Int) < (n : Int) := by omega
    clear hcell hcell0 hb2l d1
    go_wp2_with fail
    obtain ⟨W5, hW5⟩ : ∃ W, w5.alloc (.cells #[.int .u64 0, .int .i64 0] 33) = W := ⟨_, rfl⟩
    rw [hW5] at O5a V5a D0 D1 BL2 d0 ⊢
    refine (CK.out _ O5a.out).mono ?_; rintro e w6 ⟨rfl, hb⟩
    have O6 := Lib.hid (O5a.out.grew hb)
    have c0 : w6.cell? ⟨b2, off2 + k, none⟩ = some (.int .u64 (x : Int)) := (hb.cell (p := ⟨b2, off2 + k, none⟩) BL2.out).trans D0.out
    have c1 : w6.cell? ⟨b2, off2, none⟩ = some (.int .u64 (z : Int)) := (hb.cell (p := ⟨b2, off2, none⟩) BL2.out).trans D1.out
    have C1 := Lib.hid c1
    have l6 : b2 < w6.heap.size := Nat.lt_of_lt_of_le BL2.out hb.size
    obtain ⟨bc, hbc⟩ : ∃ b, w6.heap.size = b := ⟨_, rfl⟩
    have K6 : Hid (Blk (w6.alloc (.cells #[.int .u64 (x : Int), .int .i64 (k1 : Int)] 33)) bc 33 (lsC x (k1 : Int))) := Lib.hid (by rw [← hbc]; exact Blk.new w6 _ _)
    have O6a := Lib.hid (O6.out.alloc (.cells #[.int .u64 (x : Int), .int .i64 (k1 : Int)] 33))
    have c0a : (w6.alloc (.cells #[.int .u64 (x : Int), .int .i64 (k1 : Int)] 33)).cell? ⟨b2, off2 + k, none⟩ = some (.int .u64 (x : Int)) := (((Below.refl _ w6).alloc (Nat.le_refl _) _).cell (p := ⟨b2, off2 + k, none⟩) l6).trans c0
    have C0 := Lib.hid c0
    clear hb d0 c0 c1 hW5 D0 D1 BL2
    go_wp2_with fail
    obtain ⟨W6, hW6⟩ : ∃ W, w6.alloc (.cells #[.int .u64 (x : Int), .int .i64 (k1 : Int)] 33) = W := ⟨_, rfl⟩
    have BW6 : Below w6.heap.size w6 W6 := by rw [← hW6]; exact (Below.refl _ w6).alloc (Nat.le_refl _) _
    rw [hW6] at O6a K6 ⊢
    refine (CS.out _ O6a.out).mono ?_; rintro e w7 ⟨rfl, hb⟩
    have O7 := Lib.hid (O6a.out.grew hb)
    have K7 := Lib.hid (K6.out.grew hb)
    have B67 := Lib.hid (below_then BW6 BW6.size hb)
    have O7a := Lib.hid (O7.out.alloc (.cells #[.int .u64 0, .int .i64 0] 33))
    have K7a := Lib.hid (K7.out.alloc (.cells #[.int .u64 0, .int .i64 0] 33))
    have B7a := Lib.hid (B67.out.alloc B67.out.size (.cells #[.int .u64 0, .int .i64 0] 33))
    clear hb hW6 BW6 c0a
    go_wp2_with fail
    obtain ⟨W7, hW7⟩ : ∃ W, w7.alloc (.cells #[.int .u64 0, .int .i64 0] 33) = W := ⟨_, rfl⟩
    rw [hW7] at O7a K7a B7a ⊢
    refine (CA.out _ O7a.out bc K7a.out).mono ?_; rintro e w8 ⟨a8, cap8, rfl, hq, hd1, hd2, hin8, hb⟩
    have O8 := Lib.hid (O7a.out.grew hb)
    have K8 := Lib.hid (K7a.out.grew hb)
    have B8 := Lib.hid (below_then B7a.out B7a.out.size hb)
    obtain ⟨b8, off8, rfl, hcell⟩ := hq.elem HD0.out
    obtain ⟨b9, off9, eb, hcell2⟩ := hq.elem HDK.out
    injection eb with eb
    injection eb with eb1 eb2 _
    subst eb1 eb2
    have f0 := hcell 0 (.int .u64 (x : Int)) rfl
    have f1 := hcell2 0 (.int .u64 (z : Int)) rfl
    simp only [Elem.u64s, Nat.add_zero, Nat.mul_one] at f0 f1
    have g0 : w8.cell? ⟨b2, off2 + k, none⟩ = some (.int .u64 (x : Int)) := (B8.out.cell (p := ⟨b2, off2 + k, none⟩) l6).trans C0.out
    have g1 : w8.cell? ⟨b2, off2, none⟩ = some (.int .u64 (z : Int)) := (B8.out.cell (p := ⟨b2, off2, none⟩) l6).trans C1.out
    have h1 : w8.cell? ⟨bc, 1, none⟩ = some (.int .i64 (k1 : Int)) := K8.out.cell 1
    have tk : ((k1 : Int) != (k1 : Int)) = false := by simp
    have tx : ((x : Int) != (x : Int)) = false := by simp
    have tz : ((z : Int) != (z : Int)) = false := by simp
    have j0 : (0 : Int) < (k1 : Int) := by omega
    have j1 : (k : Int) < (k1 : Int) := by omega
    clear hb hW7 hq hcell hcell2 hin8
    go_wp2_with fail
    go_quiet (fail)
    go_wp2_with fail
    have G1 := Lib.hid g1
    clear f0 f1 g0 g1 h1 tk tx tz
    generalize hW8 : w8.drewN _ = W8
    have B88 : Below w8.heap.size w8 W8 := by rw [← hW8]; exact below_drewN (Below.refl _ w8) _
    have O9 := Lib.hid (O8.out.grew B88)
    have e1 : W8.cell? ⟨b2, off2, none⟩ = some (.int .u64 (z : Int)) := (B88.cell (p := ⟨b2, off2, none⟩) (Nat.lt_of_lt_of_le l6 B8.out.size)).trans G1.out
    have e2 : W8.cell? ⟨lp, 0, none⟩ = some (.int .u64 (hd : Int)) := O9.out.lst.cell 0
    have L8 : b2 < W8.heap.size := Nat.lt_of_lt_of_le l6 (Nat.le_trans B8.out.size B88.size)
    have n0' : 0 < n := by omega
    clear hW8 B88
    go_region_held3 (fun w' => w'.cell? ⟨b2, off2, none⟩ = some (.int .u64 (z : Int)) ∧ w'.cell? ⟨lp, 0, none⟩ = some (.int .u64 (hd : Int))) (first | go_keep | exact ⟨e1, e2⟩)
      (first
        | (go_at_call 20; (first | (with_reducible refine (ST.out _ (O9.out.grew (Below.refl _ _).drew)).mono ?_) | (with_reducible refine (ST.out _ O9.out).mono ?_)); rintro e w9 ⟨rfl, ho, hu⟩; have OA := Lib.hid ho; have e2 : w9.cell? ⟨lp, 0, none⟩ = some (.int .u64 (hd : Int)) := ho.lst.cell 0; have e1 : w9.cell? ⟨b2, off2, none⟩ = some (.int .u64 (z : Int)) := (World.cell?_of_block (a := ⟨b2, off2, none⟩) (hu.block b2 L8 hb2g.1)).trans e1; clear ho hu))
    clear e1
    go_wp2_with fail
    refine (CR.out _ OA.out).mono ?_; rintro e w10 ⟨rfl, hb⟩
    have OB := Lib.hid ((OA.out.grew hb).alloc (.cells #[.int .u64 0, .int .i64 0] 33))
    clear hb e2
    go_wp2_with fail
    refine (AR.out _ OB.out).mono ?_; rintro e w11 ⟨ax, kx, capx, rfl, hb⟩
    have OC := Lib.hid (OB.out.grew hb)
    clear hb
    go_wp2
    go_ret
    exact ⟨rfl, OC.out.below⟩
end Go.Proofs.Ytmnnmgphiiedgaa.listChains
