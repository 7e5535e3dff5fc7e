/- The law ArenaBack, walked. -/
import Derived.Test.YtnkahcfkbpbhiaaArenaBack1
import Derived.Deep.RegionHeld3
namespace Go.Proofs.Ytnkahcfkbpbhiaa.arenaBack
open Go.RowKit ArenaMath
set_option linter.unusedVariables false

theorem total_le {S : Nat} {l : List (Nat × Nat)} (h : Ok S l) : total l ≤ S := by
  have : ∀ (l : List (Nat × Nat)) (lo : Nat), l.Pairwise (fun x y => x.1 + x.2 ≤ y.1) → (∀ x ∈ l, lo ≤ x.1 ∧ x.1 + x.2 ≤ S) → lo ≤ S → lo + total l ≤ S := by
    intro l
    induction l with
    | nil => intro lo _ _ hlo; simpa [total] using hlo
    | cons x t ih =>
      intro lo hp hx hlo
      rw [List.pairwise_cons] at hp
      have h1 := hx x (by simp)
      have := ih (x.1 + x.2) hp.2 (fun y hy => ⟨hp.1 y hy, (hx y (by simp [hy])).2⟩) h1.2
      rw [total_cons]; omega
  have := this l 0 h.1 (fun x hx => ⟨Nat.zero_le _, (h.2 x hx).2⟩) (Nat.zero_le _)
  omega
theorem reserve_T (s : St) (n : Int) (h : s.T = []) : (reserve s n).2.2.T = [] := by
  unfold reserve
  split
  · exact h
  · split
    · simp [St.no, h]
    · split
      · simp [St.no, h]
      · simp [St.give, h]
/-- What isn't a region's beginning isn't taken back. -/
theorem release_inside {s : St} (ho : Ok 64 s.l) {x1 x2 : Nat} (hx : (x1, x2) ∈ s.l) (h2 : 1 < x2) : release s ((x1 : Int) + 1) = (5, s) := by
  unfold release
  rw [if_neg]
  rintro ⟨_, ⟨y1, y2⟩, hy, e⟩
  simp only at e
  have hy2 := (ho.2 _ hy).1
  simp only at hy2
  rcases ho.apart hx hy with h | h | h
  · injection h with h _; omega
  · simp only at h; omega
  · simp only at h; omega
theorem release_end {s : St} (ho : Ok 64 s.l) : release s 64 = (5, s) := by
  unfold release
  rw [if_neg]
  rintro ⟨_, ⟨y1, y2⟩, hy, e⟩
  simp only at e
  have hy2 := ho.2 _ hy
  simp only at hy2
  omega
theorem release_at {s : St} {x1 x2 : Nat} (hx : (x1, x2) ∈ s.l) : release s (x1 : Int) = (0, { s with l := del s.l x1 }) := by
  unfold release
  rw [if_pos ⟨by omega, (x1, x2), hx, by simp⟩, Int.toNat_natCast]
theorem release_gone {s : St} {x1 : Nat} : release { s with l := del s.l x1 } (x1 : Int) = (5, { s with l := del s.l x1 }) := by
  unfold release
  rw [if_neg]
  rintro ⟨_, ⟨y1, y2⟩, hy, e⟩
  have := (mem_del.1 hy).2
  simp only at e this
  omega
theorem reserve_back {s : St} (hg : ArenaMath.Good s) (hS : s.S = 64) (hl : s.lim = 64) (hT : s.T = []) {x1 x2 a : Nat} (hx : (x1, x2) ∈ s.l) (h : spot 64 (del s.l x1) x2 = some a) :
    (reserve { s with l := del s.l x1 } (x2 : Int)).1 = (a : Int) ∧ (reserve { s with l := del s.l x1 } (x2 : Int)).2.1 = 0 := by
  have ho : Ok 64 s.l := by have := hg.ok; rwa [hS] at this
  have hb := ho.2 _ hx
  simp only at hb
  have ht := total_le ho
  have hd := total_del ho hx
  have := reserve_some (s := { s with l := del s.l x1 }) (k := x2) (a := a) hb.1 (by simp only; omega) (by simp only; rw [hT]; rfl) (by simp only; omega) (by simp only; rw [hS]; exact h)
  rw [this]
  exact ⟨rfl, rfl⟩
def Filling (w : World) (q len : Nat) (i : Value) (wr : World) : Prop := ∃ k : Nat, k ≤ len ∧ i = .int .i64 (k : Int) ∧ ∃ s : St, s.S = 64 ∧ s.lim = 64 ∧ s.T = [] ∧ s.r ≤ k ∧ Lives w q s wr

set_option maxRecDepth 100000 in
set_option maxHeartbeats 4000000 in
theorem walk_short (w : World) (a : Option Addr) (cap : Nat) (sz : List Int) (h : NumsAt w .u8 (.slice a sz.length cap) sz) (wh : Nat) (hwh : wh ≤ 255) (hl : sz.length ≤ 64) :
    Calls Try.prog 6 #[.slice a sz.length cap, .int .u8 (wh : Int)] w fun e w' => e = .returned (.bool true) ∧ Below w.heap.size w w' := by
  have H := Lib.hid h
  have t0 : decide ((64 : Int) < (sz.length : Int)) = false := decide_eq_false (by omega)
  clear h
  go_enter Try.func6, Try.ntmps6
  go_wp2_with fail
  refine (alive_any _).mono ?_; rintro e w1 ⟨rfl, hb⟩
  have B1 := Lib.hid hb
  clear hb
  go_wp2_with fail
  refine (lives_new 64 64 (by decide) (by decide) (by decide) B1.out).mono ?_; rintro e w2 ⟨q, rfl, hs⟩
  have S2 := Lib.hid hs
  clear hs
  go_wp2_with fail
  clear t0
  go_loopw [30] (fun i wr => Filling w q sz.length i wr) (fun i _ => sz.length - (intOf i).toNat)
  case atStart => exact ⟨0, Nat.zero_le _, rfl, _, rfl, rfl, rfl, Nat.zero_le _, S2.out⟩
  case round =>
    obtain ⟨k, hk2, rfl, s, es, el, et, er, hs⟩ := hrel
    have S4 := Lib.hid hs
    have E4 := Lib.hid (And.intro es (And.intro el (And.intro et er)))
    have hsr : s.r ≤ 1000000000000 := by omega
    clear hs es el et er
    by_cases hlt : k < sz.length
    · obtain ⟨a', cap', e, _, _, _, h4, h5⟩ := H.out.below (Nat.le_refl _) S4.out.below
      injection e with e1 _ e3
      subst e1 e3
      obtain ⟨b, off, rfl, hcell⟩ := h4 k hlt
      have hbd := u8_bd (h5 (sz.getD k 0) (by simp [List.getD_eq_getElem?_getD, hlt]))
      obtain ⟨z, hz⟩ : ∃ z, sz.getD k 0 = z := ⟨_, rfl⟩
      rw [hz] at hcell hbd
      clear h4 h5 hz
      obtain ⟨z, rfl⟩ := Int.eq_ofNat_of_zero_le hbd.1
      have hz2 : z ≤ 255 := by omega
      have hmod : Int.tmod (z : Int) 5 = ((z % 5 : Nat) : Int) := (Int.ofNat_tmod _ _).symm
      have hy : z % 5 < 5 := Nat.mod_lt _ (by decide)
      obtain ⟨y, hyy⟩ : ∃ y, z % 5 = y := ⟨_, rfl⟩
      rw [hyy] at hmod hy
      have HR := S4.out.reserve ((y : Int) + 1) hsr
      have hsame := reserve_same s ((y : Int) + 1)
      have hT := reserve_T s ((y : Int) + 1) E4.out.2.2.1
      obtain ⟨s2, hs2⟩ : ∃ s2, (reserve s ((y : Int) + 1)).2.2 = s2 := ⟨_, rfl⟩
      rw [hs2] at HR hsame hT
      have E5 : Hid (s2.S = 64 ∧ s2.lim = 64 ∧ s2.T = [] ∧ s2.r ≤ k + 1) := Lib.hid ⟨hsame.1.trans E4.out.1, hsame.2.1.trans E4.out.2.1, hT, by have := E4.out.2.2.2; have := hsame.2.2; omega⟩
      have HR := Lib.hid HR
      clear hsame hT hs2 hyy hbd
      go_wp2_with fail
      refine HR.out.mono ?_; rintro e w5 ⟨rfl, hs⟩
      have S5 := Lib.hid hs
      clear hs
      go_wp2
      go_roundw
      case rel => exact ⟨k + 1, by omega, by go_num, s2, E5.out.1, E5.out.2.1, E5.out.2.2.1, E5.out.2.2.2, S5.out⟩
      case measure => simp [intOf]; omega
    · obtain rfl : k = sz.length := by omega
      have hL := S4.out.listed
      have hgd := S4.out.good
      have hok : Ok 64 s.l := by have := hgd.ok; rwa [E4.out.1] at this
      have hll : s.l.length ≤ 64 := by have := length_le_total hok; have := total_le hok; omega
      have HL := Lib.hid hL; have OK := Lib.hid hok; have GD := Lib.hid hgd
      clear hL hgd hok
      go_wp2_with fail
      refine HL.out.mono ?_; rintro e w5 ⟨v, rfl, hs, hb⟩
      obtain ⟨va, vcap, rfl, hvl, hvc⟩ := hs.vec.shape
      obtain ⟨n, hn⟩ : ∃ n, s.l.length = n := ⟨_, rfl⟩
      have S5 := Lib.hid hs
      have HN := Lib.hid hn
      rw [hn] at hll hvl ⊢
      clear hb hs hn HL
      by_cases hn0 : n = 0
      · have t1 : ((n : Int) == 0) = true := by rw [beq_iff_eq]; omega
        clear hn0
        go_wp2
        go_ret
        exact ⟨rfl, S5.out.below⟩
      · have t1 : ((n : Int) == 0) = false := by rw [beq_eq_false_iff_ne]; omega
        have hi : wh % n < n := Nat.mod_lt _ (by omega)
        have hmod : Int.tmod (wh : Int) (n : Int) = ((wh % n : Nat) : Int) := (Int.ofNat_tmod _ _).symm
        obtain ⟨i, hii⟩ : ∃ i, wh % n = i := ⟨_, rfl⟩
        rw [hii] at hi hmod
        obtain ⟨⟨x1, x2⟩, hx⟩ : ∃ x, s.l[i]? = some x := ⟨s.l[i]'(by rw [HN.out]; exact hi), List.getElem?_eq_getElem _⟩
        obtain ⟨own, hA, ho, hbl, hv, hnv⟩ := S5.out
        obtain ⟨b2, off2, rfl, hcell⟩ := (show Seq Elem.pairs w5 (.slice va n vcap) s.l by rw [← HN.out]; exact hv.seq).elem hx
        have d0 := hcell 0 (.int .i64 (x1 : Int)) rfl
        have d1 := hcell 1 (.int .i64 (x2 : Int)) rfl
        simp only [Elem.pairs, Nat.add_zero] at d0 d1
        have hxm : (x1, x2) ∈ s.l := List.mem_of_getElem? hx
        have hxo := OK.out.2 _ hxm
        simp only at hxo
        obtain ⟨bb, hbb⟩ : ∃ bb, w5.heap.size = bb := ⟨_, rfl⟩
        obtain ⟨W, hW⟩ : ∃ W, w5.alloc (.cells #[.int .i64 (x1 : Int), .int .i64 (x2 : Int)] 49) = W := ⟨_, rfl⟩
        have hAW : IsArena W q own s := by rw [← hW]; exact hA.alloc _
        have hBW : Blk W bb 49 #[.int .i64 (x1 : Int), .int .i64 (x2 : Int)] := by rw [← hW, ← hbb]; exact Blk.new w5 _ _
        have hVW : Vec Elem.pairs W (.slice (some ⟨b2, off2, none⟩) s.l.length vcap) s.l := by rw [← hW]; exact hv.alloc _
        have hbo : ¬ own bb := fun hk => by have := hA.lt hk; omega
        have hWb : Below w.heap.size w W := by rw [← hW]; exact hbl.alloc hbl.size _
        have KB : Hid (∀ s' w', Became W q own s' w' → w'.cell? ⟨bb, 0, none⟩ = some (.int .i64 (x1 : Int)) ∧ w'.cell? ⟨bb, 1, none⟩ = some (.int .i64 (x2 : Int)) ∧ Vec Elem.pairs w' (.slice (some ⟨b2, off2, none⟩) s.l.length vcap) s.l ∧ Below w.heap.size w w') :=
          Lib.hid fun s' w' k => ⟨(hBW.upd k.2 hbo).cell 0, (hBW.upd k.2 hbo).cell 1, hVW.upd k.2 hnv, hWb.trans (k.2.below ho hWb.size)⟩
        have hdt := total_del OK.out hxm
        have hdl := length_del OK.out hxm
        have htl := total_le OK.out
        obtain ⟨dl, hdl2⟩ : ∃ dl, total (del s.l x1) = dl := ⟨_, rfl⟩
        obtain ⟨tl, htl2⟩ : ∃ tl, total s.l = tl := ⟨_, rfl⟩
        obtain ⟨dn, hdn2⟩ : ∃ dn, (del s.l x1).length = dn := ⟨_, rfl⟩
        obtain ⟨s3, hs3⟩ : ∃ s3 : St, s3 = { s with l := del s.l x1 } := ⟨_, rfl⟩
        have HR2 : Hid (∀ w', Became W q own s w' → Calls Try.prog 12 #[.pointer (some ⟨q, 0, none⟩), .int .i64 64] w' fun e w2 => e = .returned (.int .i64 5) ∧ Became W q own s w2) :=
          Lib.hid fun w' k => by have := k.release 64; rwa [release_end OK.out] at this
        have HR1 : Hid (1 < x2 → ∀ w', Became W q own s w' → Calls Try.prog 12 #[.pointer (some ⟨q, 0, none⟩), .int .i64 ((x1 : Int) + 1)] w' fun e w2 => e = .returned (.int .i64 5) ∧ Became W q own s w2) :=
          Lib.hid fun h w' k => by have := k.release ((x1 : Int) + 1); rwa [release_inside OK.out hxm h] at this
        have HR3 : Hid (∀ w', Became W q own s w' → Calls Try.prog 12 #[.pointer (some ⟨q, 0, none⟩), .int .i64 (x1 : Int)] w' fun e w2 => e = .returned (.int .i64 0) ∧ Became W q own s3 w2) :=
          Lib.hid fun w' k => by have := k.release (x1 : Int); rwa [release_at hxm, ← hs3] at this
        have HR4 : Hid (∀ w', Became W q own s3 w' → Calls Try.prog 12 #[.pointer (some ⟨q, 0, none⟩), .int .i64 (x1 : Int)] w' fun e w2 => e = .returned (.int .i64 5) ∧ Became W q own s3 w2) :=
          Lib.hid fun w' k => by have := k.release (x1 : Int); rwa [hs3, release_gone, ← hs3] at this
        have HG : Hid (∀ w', Became W q own s3 w' → Calls Try.prog 20 #[.pointer (some ⟨q, 0, none⟩)] w' fun e w2 => e = .returned (.int .i64 (dl : Int)) ∧ Became W q own s3 w2) :=
          Lib.hid fun w' k => by have := k.given; rwa [show total s3.l = dl by rw [hs3]; exact hdl2] at this
        have HS : Hid (∀ w', Became W q own s3 w' → Calls Try.prog 24 #[.slice (some ⟨b2, off2, none⟩) n vcap] w' fun e w2 => e = .returned (.int .i64 (tl : Int)) ∧ Became W q own s3 w2) :=
          Lib.hid fun w' k => by
            have hv' := (KB.out _ _ k).2.2.1
            have := sum_any w' _ _ s.l hv' (by omega) (by rw [HN.out]; omega)
            rw [HN.out, htl2] at this
            exact this.mono fun e w2 x => ⟨x.1, k.grew x.2⟩
        have HRG : Hid (∀ w', Became W q own s3 w' → Calls Try.prog 23 #[.pointer (some ⟨q, 0, none⟩)] w' fun e w2 => (∃ a cap, e = .returned (.slice a dn cap)) ∧ Became W q own s3 w2) :=
          Lib.hid fun w' k => by have := k.regions; rwa [show s3.l.length = dn by rw [hs3]; exact hdn2] at this
        -- where it is given anew
        obtain ⟨at0, hat⟩ : ∃ at0, spot 64 (del s.l x1) x2 = some at0 := by
          cases hsp : spot 64 (del s.l x1) x2 with
          | some a => exact ⟨a, rfl⟩
          | none => exact absurd (clear_self OK.out hxm) (spot_none hxo.1 hsp x1 hxo.2)
        have hat2 : at0 ≤ x1 := by
          rcases Nat.lt_or_ge x1 at0 with h | h
          · exact absurd (clear_self OK.out hxm) ((spot_some hat).2.2 x1 h)
          · exact h
        have HLO : Hid (∀ s' w', Became W q own s' w' → Calls Try.prog 25 #[.slice (some ⟨b2, off2, none⟩) n vcap, .agg #[.int .i64 (x1 : Int), .int .i64 (x2 : Int)]] w' fun e w2 => e = .returned (.int .i64 (at0 : Int)) ∧ Became W q own s' w2) :=
          Lib.hid fun s' w' k => by
            have hv' := (KB.out _ _ k).2.2.1
            have := lowest_any w' _ _ s.l hv' OK.out x1 x2 hxm (by rw [HN.out]; omega)
            rw [HN.out] at this
            refine this.mono ?_
            rintro e w2 ⟨a, rfl, hsp, _, hb⟩
            rw [hat] at hsp
            injection hsp with hsp
            subst hsp
            exact ⟨rfl, k.grew hb⟩
        have hsr3 : s3.r ≤ 1000000000000 := by rw [hs3]; exact hsr
        have hback := reserve_back GD.out E4.out.1 E4.out.2.1 E4.out.2.2.1 hxm hat
        rw [← hs3] at hback
        obtain ⟨s4, hs4⟩ : ∃ s4, (reserve s3 (x2 : Int)).2.2 = s4 := ⟨_, rfl⟩
        have HV : Hid (∀ w', Became W q own s3 w' → Calls Try.prog 16 #[.pointer (some ⟨q, 0, none⟩), .int .i64 (x2 : Int)] w' fun e w2 => e = .returned (.tuple #[.int .i64 (at0 : Int), .int .i64 0]) ∧ Became W q own s4 w2) :=
          Lib.hid fun w' k => by have := k.reserve (x2 : Int) hsr3; rwa [hback.1, hback.2, hs4] at this
        have ST : Hid (Became W q own s W) := Lib.hid (Became.same hAW)
        have HAT := Lib.hid hat
        rw [htl2] at hdt htl
        rw [hdl2] at hdt
        rw [hdn2, HN.out] at hdl
        have k0 := hBW.cell 0
        have k1 := hBW.cell 1
        have hb1 : x1 ≤ 64 := by omega
        have hb2 : x2 ≤ 64 := by omega
        have hb3 : 1 ≤ x2 := hxo.1
        have HBB := Lib.hid hbb; have HWW := Lib.hid hW
        clear hx hA ho hbl hv hnv hcell hxm hxo hAW hBW hVW hbo hWb hdl2 htl2 hdn2 hs3 hat hsr3 hback hs4 hii
        by_cases h2 : 1 < x2
        · have tN : decide ((1 : Int) < (x2 : Int)) = true := decide_eq_true (by omega)
          have HR1' := Lib.hid (HR1.out h2)
          clear h2
          go_wp2_with fail
          refine (HR1'.out _ ST.out).mono ?_; rintro e w7 ⟨rfl, hs⟩
          clear k0 k1
          obtain ⟨k0, k1, _⟩ := KB.out _ _ hs
          have ST := Lib.hid hs
          clear hs
          go_wp2_with fail
          refine (HR2.out _ ST.out).mono ?_; rintro e w8 ⟨rfl, hs⟩
          obtain ⟨k0, k1, _⟩ := KB.out _ _ hs
          have ST2 := Lib.hid hs
          clear hs ST
          go_wp2_with fail
          refine (HR3.out _ ST2.out).mono ?_; rintro e w9 ⟨rfl, hs⟩
          clear k0 k1
          obtain ⟨k0, k1, _⟩ := KB.out _ _ hs
          have ST3 := Lib.hid hs
          clear hs ST2
          go_wp2_with fail
          refine (HR4.out _ ST3.out).mono ?_; rintro e w10 ⟨rfl, hs⟩
          clear k0 k1
          obtain ⟨k0, d1, hv, hbl⟩ := KB.out _ _ hs
          have ST := Lib.hid hs
          have tc1 : ((dl : Int) != (tl : Int) - (x2 : Int)) = false := by rw [bne_eq_false_iff_eq]; omega
          have tc2 : ((dn : Int) != (n : Int) - 1) = false := by rw [bne_eq_false_iff_eq]; omega
          have wr1 : IntKind.i64.wrap ((tl : Int) - (x2 : Int)) = (tl : Int) - (x2 : Int) := IntWalk.i64_in _ ⟨by omega, by omega⟩
          have wr2 : IntKind.i64.wrap ((n : Int) - 1) = (n : Int) - 1 := IntWalk.i64_in _ ⟨by omega, by omega⟩
          clear hs ST3 hv hbl k0 tN
          go_wp2_with fail
          go_region_held3 (fun w' => w'.cell? ⟨bb, 1, none⟩ = some (.int .i64 (x2 : Int))) (first | go_keep | exact d1)
            (first
              | (go_at_call 20; (first | (with_reducible refine (HG.out _ ST.out.drew).mono ?_) | (with_reducible refine (HG.out _ ST.out).mono ?_)); rintro e w5 ⟨rfl, hst⟩; have d1 := (KB.out _ _ hst).2.1; have ST := Lib.hid hst; clear hst)
              | (go_at_call 24; (first | (with_reducible refine (HS.out _ ST.out.drew).mono ?_) | (with_reducible refine (HS.out _ ST.out).mono ?_)); rintro e w5 ⟨rfl, hst⟩; have d1 := (KB.out _ _ hst).2.1; have ST := Lib.hid hst; clear hst)
              | (go_at_call 23; (first | (with_reducible refine (HRG.out _ ST.out.drew).mono ?_) | (with_reducible refine (HRG.out _ ST.out).mono ?_)); rintro e w5 ⟨⟨va2, vc2, rfl⟩, hst⟩; have d1 := (KB.out _ _ hst).2.1; have ST := Lib.hid hst; clear hst))
          clear tc1 tc2 wr1 wr2
          go_wp2_with fail
          refine (HV.out _ ST.out).mono ?_; rintro e w11 ⟨rfl, hs⟩
          obtain ⟨k0, k1, _⟩ := KB.out _ _ hs
          have ST := Lib.hid hs
          have q1 : decide (at0 ≤ x1) = true := decide_eq_true hat2
          have q2 : decide ((at0 : Int) ≤ (x1 : Int)) = true := decide_eq_true (by omega)
          obtain ⟨c, hc⟩ : ∃ c, ((at0 : Int) == (x1 : Int)) = c := ⟨_, rfl⟩
          have hcc : (c == c) = true := by simp
          clear hs d1
          go_wp2_with fail
          go_region_held3 (fun w' => w'.cell? ⟨bb, 0, none⟩ = some (.int .i64 (x1 : Int)) ∧ w'.cell? ⟨bb, 1, none⟩ = some (.int .i64 (x2 : Int))) (first | go_keep | exact ⟨k0, k1⟩)
            (first
              | (go_at_call 25; (first | (with_reducible refine (HLO.out _ _ ST.out.drew).mono ?_) | (with_reducible refine (HLO.out _ _ ST.out).mono ?_)); rintro e w5 ⟨rfl, hst⟩; have k0 := (KB.out _ _ hst).1; have k1 := (KB.out _ _ hst).2.1; have ST := Lib.hid hst; clear hst))
          go_wp2
          go_ret
          exact ⟨rfl, (KB.out _ _ ST.out).2.2.2⟩
        · have tN : decide ((1 : Int) < (x2 : Int)) = false := decide_eq_false (by omega)
          clear h2
          go_wp2_with fail
          refine (HR2.out _ ST.out).mono ?_; rintro e w8 ⟨rfl, hs⟩
          obtain ⟨k0, k1, _⟩ := KB.out _ _ hs
          have ST2 := Lib.hid hs
          clear hs ST
          go_wp2_with fail
          refine (HR3.out _ ST2.out).mono ?_; rintro e w9 ⟨rfl, hs⟩
          clear k0 k1
          obtain ⟨k0, k1, _⟩ := KB.out _ _ hs
          have ST3 := Lib.hid hs
          clear hs ST2
          go_wp2_with fail
          refine (HR4.out _ ST3.out).mono ?_; rintro e w10 ⟨rfl, hs⟩
          clear k0 k1
          obtain ⟨k0, d1, hv, hbl⟩ := KB.out _ _ hs
          have ST := Lib.hid hs
          have tc1 : ((dl : Int) != (tl : Int) - (x2 : Int)) = false := by rw [bne_eq_false_iff_eq]; omega
          have tc2 : ((dn : Int) != (n : Int) - 1) = false := by rw [bne_eq_false_iff_eq]; omega
          have wr1 : IntKind.i64.wrap ((tl : Int) - (x2 : Int)) = (tl : Int) - (x2 : Int) := IntWalk.i64_in _ ⟨by omega, by omega⟩
          have wr2 : IntKind.i64.wrap ((n : Int) - 1) = (n : Int) - 1 := IntWalk.i64_in _ ⟨by omega, by omega⟩
          clear hs ST3 hv hbl k0 tN
          go_wp2_with fail
          go_region_held3 (fun w' => w'.cell? ⟨bb, 1, none⟩ = some (.int .i64 (x2 : Int))) (first | go_keep | exact d1)
            (first
              | (go_at_call 20; (first | (with_reducible refine (HG.out _ ST.out.drew).mono ?_) | (with_reducible refine (HG.out _ ST.out).mono ?_)); rintro e w5 ⟨rfl, hst⟩; have d1 := (KB.out _ _ hst).2.1; have ST := Lib.hid hst; clear hst)
              | (go_at_call 24; (first | (with_reducible refine (HS.out _ ST.out.drew).mono ?_) | (with_reducible refine (HS.out _ ST.out).mono ?_)); rintro e w5 ⟨rfl, hst⟩; have d1 := (KB.out _ _ hst).2.1; have ST := Lib.hid hst; clear hst)
              | (go_at_call 23; (first | (with_reducible refine (HRG.out _ ST.out.drew).mono ?_) | (with_reducible refine (HRG.out _ ST.out).mono ?_)); rintro e w5 ⟨⟨va2, vc2, rfl⟩, hst⟩; have d1 := (KB.out _ _ hst).2.1; have ST := Lib.hid hst; clear hst))
          clear tc1 tc2 wr1 wr2
          go_wp2_with fail
          refine (HV.out _ ST.out).mono ?_; rintro e w11 ⟨rfl, hs⟩
          obtain ⟨k0, k1, _⟩ := KB.out _ _ hs
          have ST := Lib.hid hs
          have q1 : decide (at0 ≤ x1) = true := decide_eq_true hat2
          have q2 : decide ((at0 : Int) ≤ (x1 : Int)) = true := decide_eq_true (by omega)
          obtain ⟨c, hc⟩ : ∃ c, ((at0 : Int) == (x1 : Int)) = c := ⟨_, rfl⟩
          have hcc : (c == c) = true := by simp
          clear hs d1
          go_wp2_with fail
          go_region_held3 (fun w' => w'.cell? ⟨bb, 0, none⟩ = some (.int .i64 (x1 : Int)) ∧ w'.cell? ⟨bb, 1, none⟩ = some (.int .i64 (x2 : Int))) (first | go_keep | exact ⟨k0, k1⟩)
            (first
              | (go_at_call 25; (first | (with_reducible refine (HLO.out _ _ ST.out.drew).mono ?_) | (with_reducible refine (HLO.out _ _ ST.out).mono ?_)); rintro e w5 ⟨rfl, hst⟩; have k0 := (KB.out _ _ hst).1; have k1 := (KB.out _ _ hst).2.1; have ST := Lib.hid hst; clear hst))
          go_wp2
          go_ret
          exact ⟨rfl, (KB.out _ _ ST.out).2.2.2⟩
theorem walk_long (w : World) (a : Option Addr) (n cap : Nat) (wh : Nat) (hl : 64 < n) :
    Calls Try.prog 6 #[.slice a n cap, .int .u8 (wh : Int)] w fun e w' => e = .returned (.bool true) ∧ Below w.heap.size w w' := by
  have t0 : decide ((64 : Int) < (n : Int)) = true := decide_eq_true (by omega)
  go_enter Try.func6, Try.ntmps6
  go_wp2_with fail
  refine (alive_any _).mono ?_; rintro e w1 ⟨rfl, hb⟩
  have B1 := Lib.hid hb
  clear hb
  go_wp2_with fail
  refine (lives_new 64 64 (by decide) (by decide) (by decide) B1.out).mono ?_; rintro e w2 ⟨q, rfl, hs⟩
  have S2 := Lib.hid hs
  clear hs
  go_wp2
  go_ret
  exact ⟨rfl, S2.out.below⟩
theorem walk (w : World) {a : Option Addr} {n cap : Nat} (l : List Int) (h : NumsAt w .u8 (.slice a n cap) l) (wh : Int) (h1 : (Lit.int .u8 wh).wf = true) :
    Calls Try.prog 6 #[.slice a n cap, .int .u8 wh] w fun e w' => e = .returned (.bool true) ∧ Below w.heap.size w w' := by
  have b1 := u8_bd h1
  obtain ⟨wh, rfl⟩ := Int.eq_ofNat_of_zero_le b1.1
  obtain rfl : n = l.length := by obtain ⟨_, _, e, _⟩ := h; injection e
  by_cases hl : l.length ≤ 64
  · exact walk_short w a cap l h wh (by omega) hl
  · exact walk_long w a l.length cap wh (by omega)
end Go.Proofs.Ytnkahcfkbpbhiaa.arenaBack
