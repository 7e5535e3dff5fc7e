/- The law HeapKeeps, walked (written by genkeeps.py). -/
import Derived.Test.YtfdnmoedejejlaaGreatDoorAlive12
import Derived.Test.YtfdnmoedejejlaaGreatDoorAct12
import Derived.Test.YtfdnmoedejejlaaGreatDoorKeeps12
import Derived.Deep.CutBlock
import Derived.Deep.DeepCutAuto
namespace Go.Proofs.YtfdnmoedejejlaaGreatDoor.heapKeeps
open Go.RowKit ListMath PageMath GeoMath SegMath ClassMath HeapMath QueueMath ArenaMath
set_option linter.unusedVariables false

theorem blk_below {w w' : World} {b : Nat} {t : TypeId} {cs : Array Value} (h : Blk w b t cs) (hb : Below w.heap.size w w') : Blk w' b t cs := h.upd (updFalse_of hb) fun x => x
/-- At act t. -/
def KeepR (w : World) {C : SgC w} (K : HpC w C) (h p g q n : Nat) (i : Value) (wr : World) : Prop :=
  ∃ (t : Nat) (H : HS) (A : St) (U : List Nat), t ≤ n ∧ i = .int .i64 (t : Int) ∧ OH C K h 7 p g q H A (8 * 16384) U (fun _ => False) wr ∧ A.r ≤ t
/-- At class c: so many pages till now. -/
def SumR (w : World) {C : SgC w} (K : HpC w C) (h p g q : Nat) (H : HS) (A : St) (U : List Nat) (nv cv : Value) (wr : World) : Prop :=
  ∃ (m : Nat) (c : Int) (j : Nat), -1 ≤ c ∧ c ≤ 12 ∧ (j : Int) = c + 1 ∧ nv = .int .i64 (m : Int) ∧ cv = .int .i64 c ∧ m = psum H j ∧ j = j ∧ OH C K h 7 p g q H A (8 * 16384) U (fun _ => False) wr
set_option maxRecDepth 100000 in
set_option maxHeartbeats 4000000 in
theorem walk_of (w : World) {C : SgC w} (K : HpC w C) (F : Fo w) {a : Option Addr} {n cap : Nat} (len : Nat) (G : Nat → Nat → Value) (hr : Recs w (.slice a n cap) [.num .i64, .num .i64, .num .i64, .num .i64, .num .u64] len G) :
    Calls Tryz.prog 8 #[.slice a n cap] w fun e w' => e = .returned (.bool true) ∧ Below w.heap.size w w' := by
  obtain ⟨rfl, hn1, hn2⟩ := hr.len
  have HR := Lib.hid hr
  have AL := Lib.hid (alive_h w K F)
  clear hr
  obtain ⟨tb, htb⟩ : ∃ tb, decide (100 < (n : Int)) = tb := ⟨_, rfl⟩
  have htb' : decide (100 < n) = tb := by rw [← htb]; exact decide_eq_decide.2 (by omega)
  have HT := Lib.hid htb
  go_enter Tryz.func8, Tryz.ntmps8
  go_wp2_with fail
  refine AL.out.mono ?_; rintro e w1 ⟨rfl, hb⟩
  have B1 := Lib.hid hb
  clear hb
  go_wp2_with fail
  refine (made_any (K := K) B1.out (segs := 8) (lim := 8) (by decide) (by decide) (by decide)).mono ?_; rintro e w2 ⟨h, p, g, q, rfl, z⟩
  have Z2 := Lib.hid z
  have I0 := Lib.hid (show KeepR w K h p g q n (.int .i64 0) w2 from ⟨0, _, _, _, Nat.zero_le _, rfl, z, Nat.le_refl _⟩)
  clear z
  cases tb with
  | true =>
    go_wp2
    go_ret
    exact ⟨rfl, Z2.out.below⟩
  | false =>
    have hn100 : n ≤ 100 := by have := of_decide_eq_false HT.out; omega
    clear htb htb'
    go_wp2_with fail
    go_loopw [30] (fun i wr => KeepR w K h p g q n i wr) (fun i _ => n - (intOf i).toNat)
    case atStart => exact I0.out
    case round =>
      clear I0
      obtain ⟨t, H, A, U, ht, rfl, ho, hA⟩ := hrel
      by_cases htn : t < n
      · obtain ⟨b, off, k, z, sl, wh, X, ea, hc, hk, hz, hs, hwh, hX⟩ := act12 HR.out htn
        obtain ⟨c0, c1, c2, c3, c4⟩ := hc wr ho.below
        subst ea
        have bA := Blk.new wr 44 #[.int .i64 k, .int .i64 z, .int .i64 sl, .int .i64 wh, .int .u64 (X : Int)]
        have hm := ho.mine (.cells #[.int .i64 k, .int .i64 z, .int .i64 sl, .int .i64 wh, .int .u64 (X : Int)] 44)
        obtain ⟨W1, hW1⟩ : ∃ Wz, wr.alloc (.cells #[.int .i64 k, .int .i64 z, .int .i64 sl, .int .i64 wh, .int .u64 (X : Int)] 44) = Wz := ⟨_, rfl⟩
        obtain ⟨bc, hbc⟩ : ∃ bz, wr.heap.size = bz := ⟨_, rfl⟩
        rw [hW1, hbc] at bA hm
        have m0 : W1.cell? ⟨bc, 0, none⟩ = some (.int .i64 k) := bA.cell 0
        have m1 : W1.cell? ⟨bc, 1, none⟩ = some (.int .i64 z) := bA.cell 1
        have m2 : W1.cell? ⟨bc, 2, none⟩ = some (.int .i64 sl) := bA.cell 2
        have Z1 := Lib.hid hm
        have BBZ1 := Lib.hid bA
        have HZ := Lib.hid (show I64B z from hz); have HS' := Lib.hid (show I64B sl from hs)
        have HA' := Lib.hid hA
        have t2 : decide ((t : Int) < (n : Int)) = true := decide_eq_true (by omega)
        have t2' : decide (t < n) = true := decide_eq_true htn
        have q3 : (0 : Int) ≤ (t : Int) := by omega
        have q4 : (t : Int) < (n : Int) := by omega
        have hr12 : A.r ≤ 1000000000000 := by omega
        have HR12 := Lib.hid hr12
        clear hc ho bA hm hz hs hwh hk hX hA hr12
        by_cases hk2 : k = 2
        · subst hk2
          go_wp2_with fail
          clear hW1 hbc c0 c1 c2 c3 c4
          refine (oh_grow Z1.out HR12.out).mono ?_; rintro e w3 ⟨rfl, hz3, hst⟩
          have ZG := Lib.hid hz3
          have BBZG := Lib.hid (BBZ1.out.upd hst (fun e => e (.inr rfl)))
          have RG := Lib.hid (Nat.le_trans (grow_r H A 7) (Nat.succ_le_succ HA'.out))
          clear hz3 hst m0 m1 m2
          go_wp2_with fail
          refine (oh_given ZG.out).mono ?_; rintro e w4 ⟨rfl, hb⟩
          have Z4 := Lib.hid (ZG.out.grew hb)
          have BB4 := Lib.hid (blk_below BBZG.out hb)
          have n1 := BB4.out.cell 1; have n2 := BB4.out.cell 2
          obtain ⟨gv, hgv⟩ : ∃ gv, total ((growH H A 7).2.2).l = gv := ⟨_, rfl⟩
          have HGV := Lib.hid hgv
          rw [hgv]
          clear hb hgv
          go_wp2_with fail
          refine (oh_local Z4.out HZ.out).mono ?_; rintro e w5 ⟨x5, er5, H5, rfl, hx, _⟩
          obtain ⟨U5, hz5, hst⟩ : ∃ U5, OH C K h 7 p g q H5 ((growH H A 7).2.2) (8 * 16384) U5 (fun k => False ∨ k = bc) w5 ∧ Still (fun k => False ∨ k = bc) w4 w5 := by
            rcases hx with ⟨_, _, ⟨k1, k2⟩, _⟩ | ⟨_, _, _, k1, k2⟩
            · exact ⟨_, k1, k2⟩
            · exact ⟨_, k1, k2⟩
          have Z5 := Lib.hid hz5
          have BB5 := Lib.hid (BB4.out.upd hst (fun e => e (.inr rfl)))
          clear hz5 hst hx n1 n2
          have n1 := BB5.out.cell 1; have n2 := BB5.out.cell 2
          go_wp2_with fail
          refine (oh_fresh (c := z) (sl := sl) (sg := 0) (us := 0) Z5.out HZ.out HS'.out ⟨by decide, by decide⟩ (by decide)).mono ?_; rintro e w6 ⟨x6, er6, H6, rfl, hx⟩
          obtain ⟨U6, hz6⟩ : ∃ U6, OH C K h 7 p g q H6 ((growH H A 7).2.2) (8 * 16384) U6 (fun k => False ∨ k = bc) w6 := by
            rcases hx with ⟨_, _, _, ⟨k1, k2⟩, _⟩ | ⟨_, _, rfl, ⟨k1, k2⟩, _⟩
            · exact ⟨_, k1⟩
            · exact ⟨_, k1⟩
          have Z6 := Lib.hid hz6
          clear hz6 hx n1 n2
          go_wp2_with fail
          refine (oh_given Z6.out).mono ?_; rw [HGV.out]; rintro e w7 ⟨rfl, hb⟩
          have J0 := Lib.hid (show SumR w K h p g q H6 ((growH H A 7).2.2) U6 (.int .i64 0) (.int .i64 (-1)) w7 from ⟨0, -1, 0, by decide, by decide, by decide, rfl, rfl, rfl, rfl, (Z6.out.grew hb).forget fun k hk => hk.elim⟩)
          clear hb
          go_wp2_with fail
          go_loopw [10, 11] (fun nv cv wr => SumR w K h p g q H6 ((growH H A 7).2.2) U6 nv cv wr) (fun nv cv _ => (12 - intOf cv).toNat)
          case atStart => exact J0.out
          case round =>
            clear J0
            obtain ⟨m, c, j, j1, j2, j3, rfl, rfl, j4, j5, zz⟩ := hrel
            have hg6 := zz.good
            by_cases hc12 : c < 12
            · have u1 : decide (c < 12) = true := decide_eq_true hc12
              have p1 : m ≤ 13312 := by have := psum_le hg6 j (by omega); omega
              have p2 : lenP H6 c ≤ 1024 := by rw [lenP_of H6 j1 (by omega)]; exact q_len hg6 _
              have hz1 := zz.alloc (.cells #[.int .i64 c] 3)
              have ha1 := Arr.made wr 3 [c] #[.int .i64 c] rfl 1 wr.heap.size rfl rfl (by decide) (fun y hy => by rw [List.mem_singleton.1 hy]; exact ⟨by omega, by omega⟩)
              have HPG := Lib.hid (oh_pages hz1 ha1 (show (1 : Nat) ≤ 1000 by decide))
              have Z9 := Lib.hid hz1
              have HJ := Lib.hid (And.intro j3 (And.intro j4 j5))
              clear zz hz1 ha1 hg6 j3 j4 j5
              go_wp2_with fail
              refine HPG.out.mono ?_; rintro e w9 ⟨a9, k9, cap9, rfl, hs9, _, _, _, hb9⟩
              have ZA := Lib.hid (Z9.out.grew hb9)
              have hk9 : k9 = lenP H6 c := hs9.len
              have p3 : k9 ≤ 1024 := by omega
              have HK9 := Lib.hid hk9
              clear hs9 hb9 hk9 HPG p2
              go_wp2
              go_roundw
              case rel =>
                refine ⟨m + k9, c + 1, j + 1, by omega, by omega, by have := HJ.out.1; omega, by go_num, by go_num, ?_, rfl, ZA.out⟩
                have h1 := HJ.out.1
                show m + k9 = psum H6 j + lenP H6 ((j : Int) - 1)
                rw [show (j : Int) - 1 = c by omega, ← HK9.out, HJ.out.2.1]
              case measure => simp [intOf]; omega
            · obtain rfl : c = 12 := by omega
              obtain rfl : j = 13 := by omega
              rw [psum_all H6] at j4
              have HPG := Lib.hid (oh_pages zz (Arr.nil wr) (show (0 : Nat) ≤ 1000 by decide))
              have ZZ := Lib.hid zz
              have HM := Lib.hid j4
              clear zz hg6 j4 j5
              go_wp2_with fail
              refine HPG.out.mono ?_; rintro e w9 ⟨a9, k9, cap9, rfl, hs9, _, _, _, hb9⟩
              have ZA := Lib.hid (ZZ.out.grew hb9)
              obtain rfl : k9 = m := by rw [HM.out]; exact hs9.len
              clear hs9 hb9 HPG
              go_wp2
              go_roundw
              case rel => exact ⟨t + 1, H6, (growH H A 7).2.2, U6, by omega, by go_num, ZA.out, RG.out⟩
              case measure => simp [intOf]; omega

        · have hk2' : decide (k = 2) = false := decide_eq_false hk2
          go_wp2_with fail
          clear hW1 hbc c0 c1 c2 c3 c4 m0 m1 m2
          refine (oh_given Z1.out).mono ?_; rintro e w4 ⟨rfl, hb⟩
          have Z4 := Lib.hid (Z1.out.grew hb)
          have BB4 := Lib.hid (blk_below BBZ1.out hb)
          have n1 := BB4.out.cell 1; have n2 := BB4.out.cell 2
          obtain ⟨gv, hgv⟩ : ∃ gv, total (A).l = gv := ⟨_, rfl⟩
          have HGV := Lib.hid hgv
          rw [hgv]
          clear hb hgv
          go_wp2_with fail
          refine (oh_local Z4.out HZ.out).mono ?_; rintro e w5 ⟨x5, er5, H5, rfl, hx, _⟩
          obtain ⟨U5, hz5, hst⟩ : ∃ U5, OH C K h 7 p g q H5 (A) (8 * 16384) U5 (fun k => False ∨ k = bc) w5 ∧ Still (fun k => False ∨ k = bc) w4 w5 := by
            rcases hx with ⟨_, _, ⟨k1, k2⟩, _⟩ | ⟨_, _, _, k1, k2⟩
            · exact ⟨_, k1, k2⟩
            · exact ⟨_, k1, k2⟩
          have Z5 := Lib.hid hz5
          have BB5 := Lib.hid (BB4.out.upd hst (fun e => e (.inr rfl)))
          clear hz5 hst hx n1 n2
          have n1 := BB5.out.cell 1; have n2 := BB5.out.cell 2
          go_wp2_with fail
          refine (oh_fresh (c := z) (sl := sl) (sg := 0) (us := 0) Z5.out HZ.out HS'.out ⟨by decide, by decide⟩ (by decide)).mono ?_; rintro e w6 ⟨x6, er6, H6, rfl, hx⟩
          obtain ⟨U6, hz6⟩ : ∃ U6, OH C K h 7 p g q H6 (A) (8 * 16384) U6 (fun k => False ∨ k = bc) w6 := by
            rcases hx with ⟨_, _, _, ⟨k1, k2⟩, _⟩ | ⟨_, _, rfl, ⟨k1, k2⟩, _⟩
            · exact ⟨_, k1⟩
            · exact ⟨_, k1⟩
          have Z6 := Lib.hid hz6
          clear hz6 hx n1 n2
          go_wp2_with fail
          refine (oh_given Z6.out).mono ?_; rw [HGV.out]; rintro e w7 ⟨rfl, hb⟩
          have J0 := Lib.hid (show SumR w K h p g q H6 (A) U6 (.int .i64 0) (.int .i64 (-1)) w7 from ⟨0, -1, 0, by decide, by decide, by decide, rfl, rfl, rfl, rfl, (Z6.out.grew hb).forget fun k hk => hk.elim⟩)
          clear hb
          go_wp2_with fail
          go_loopw [10, 11] (fun nv cv wr => SumR w K h p g q H6 (A) U6 nv cv wr) (fun nv cv _ => (12 - intOf cv).toNat)
          case atStart => exact J0.out
          case round =>
            clear J0
            obtain ⟨m, c, j, j1, j2, j3, rfl, rfl, j4, j5, zz⟩ := hrel
            have hg6 := zz.good
            by_cases hc12 : c < 12
            · have u1 : decide (c < 12) = true := decide_eq_true hc12
              have p1 : m ≤ 13312 := by have := psum_le hg6 j (by omega); omega
              have p2 : lenP H6 c ≤ 1024 := by rw [lenP_of H6 j1 (by omega)]; exact q_len hg6 _
              have hz1 := zz.alloc (.cells #[.int .i64 c] 3)
              have ha1 := Arr.made wr 3 [c] #[.int .i64 c] rfl 1 wr.heap.size rfl rfl (by decide) (fun y hy => by rw [List.mem_singleton.1 hy]; exact ⟨by omega, by omega⟩)
              have HPG := Lib.hid (oh_pages hz1 ha1 (show (1 : Nat) ≤ 1000 by decide))
              have Z9 := Lib.hid hz1
              have HJ := Lib.hid (And.intro j3 (And.intro j4 j5))
              clear zz hz1 ha1 hg6 j3 j4 j5
              go_wp2_with fail
              refine HPG.out.mono ?_; rintro e w9 ⟨a9, k9, cap9, rfl, hs9, _, _, _, hb9⟩
              have ZA := Lib.hid (Z9.out.grew hb9)
              have hk9 : k9 = lenP H6 c := hs9.len
              have p3 : k9 ≤ 1024 := by omega
              have HK9 := Lib.hid hk9
              clear hs9 hb9 hk9 HPG p2
              go_wp2
              go_roundw
              case rel =>
                refine ⟨m + k9, c + 1, j + 1, by omega, by omega, by have := HJ.out.1; omega, by go_num, by go_num, ?_, rfl, ZA.out⟩
                have h1 := HJ.out.1
                show m + k9 = psum H6 j + lenP H6 ((j : Int) - 1)
                rw [show (j : Int) - 1 = c by omega, ← HK9.out, HJ.out.2.1]
              case measure => simp [intOf]; omega
            · obtain rfl : c = 12 := by omega
              obtain rfl : j = 13 := by omega
              rw [psum_all H6] at j4
              have HPG := Lib.hid (oh_pages zz (Arr.nil wr) (show (0 : Nat) ≤ 1000 by decide))
              have ZZ := Lib.hid zz
              have HM := Lib.hid j4
              clear zz hg6 j4 j5
              go_wp2_with fail
              refine HPG.out.mono ?_; rintro e w9 ⟨a9, k9, cap9, rfl, hs9, _, _, _, hb9⟩
              have ZA := Lib.hid (ZZ.out.grew hb9)
              obtain rfl : k9 = m := by rw [HM.out]; exact hs9.len
              clear hs9 hb9 HPG
              go_wp2
              go_roundw
              case rel => exact ⟨t + 1, H6, A, U6, by omega, by go_num, ZA.out, Nat.le_succ_of_le HA'.out⟩
              case measure => simp [intOf]; omega

      · have t2 : decide ((t : Int) < (n : Int)) = false := decide_eq_false (by omega)
        have t2' : decide (t < n) = false := decide_eq_false htn
        have HB := Lib.hid ho.below
        clear ho hA
        go_wp2
        go_ret
        exact ⟨rfl, HB.out⟩
end Go.Proofs.YtfdnmoedejejlaaGreatDoor.heapKeeps
