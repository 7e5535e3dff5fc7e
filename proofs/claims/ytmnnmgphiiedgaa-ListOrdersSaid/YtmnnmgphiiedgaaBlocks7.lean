/- The laws' own 'blocks' of layer 7: each number's block once. -/
import Derived.Test.YtmnnmgphiiedgaaBoolMap
import Derived.Test.YtmnnmgphiiedgaaBytesIn
import Derived.Test.YtmnnmgphiiedgaaBlocksMath
namespace Go.Proofs.Ytmnnmgphiiedgaa
open Go.RowKit Go.Maps ListMath
set_option linter.unusedVariables false

theorem key8 : Keyed Try.prog 5 := int_keyed Try.underlying5
theorem zeroB (w : World) : (zeroValue 4).run Try.prog w = .ok (.bool false) w := by kernel_rfl
/-- The map reads as 'is among those'. -/
def MetIs (D : DataW Unit) (acc : List Nat) : Prop := ∀ x : Nat, D.atKey (.int .u8 (x : Int)) (.lit (.bool false)) = .lit (.bool (acc.contains x))
theorem metIs_nil : MetIs (.map []) [] := fun x => rfl
theorem MetIs.put {D : DataW Unit} {acc : List Nat} (h : MetIs D acc) (hD : IsMap D) (x : Nat) : MetIs (D.put (.int .u8 (x : Int)) (.lit (.bool true))) (acc ++ [x]) := by
  intro y
  by_cases hy : y = x
  · subst hy
    rw [atKey_put_same hD (by trivial)]
    simp
  · rw [atKey_put_other (by intro e; injection e with _ e; omega), h y]
    simp [hy]
def Picking (w : World) (nn b4 : Nat) (L : List Nat) (v i : Value) (wr : World) : Prop :=
  ∃ (j : Nat) (D : DataW Unit), j ≤ nn ∧ i = .int .i64 (j : Int) ∧ Vec Elem.u64s wr v (blocksN (L.take j)) ∧ (∀ b, In v b → b4 < b) ∧ wr.ownsMap Try.prog 5 (plainElem Try.prog 4) b4 (keysN (L.take j)).length D ∧ MetIs D (keysN (L.take j)) ∧ Below w.heap.size w wr
theorem infoU : (Try.prog.info? 28).map (fun i => (i.zero, i.size, i.bytes)) = some (some (.int .u64 0), 1, 8) := by kernel_rfl
set_option maxRecDepth 100000 in
set_option maxHeartbeats 2000000 in
theorem blocks_any (w : World) {a : Option Addr} {nn cap : Nat} {L : List Nat} (h : BytesIn w a nn L) :
    Calls Try.prog 28 #[.slice a nn cap] w fun e w' => ∃ v, e = .returned v ∧ Vec Elem.u64s w' v (blocksN L) ∧ (∀ b, In v b → w.heap.size ≤ b) ∧ Below w.heap.size w w' := by
  obtain ⟨i0, hi, hz0, hz1, hz2⟩ := info_parts infoU
  have hmm := @run_makeMap Try.prog
  have H := Lib.hid h
  obtain ⟨b4, hb4⟩ : ∃ b, w.heap.size = b := ⟨_, rfl⟩
  have HB4 := Lib.hid hb4
  have HLN := Lib.hid h.len
  have hmax := h.max
  clear h
  go_enter Try.func28, Try.ntmps28
  go_wp2
  clear hmm
  go_loopw [3, 10] (fun v i wr => Picking w nn b4 L v i wr) (fun v i _ => nn - (intOf i).toNat)
  case atStart =>
    refine ⟨0, .map [], Nat.zero_le _, rfl, Vec.nil _, (by intro b hb; cases hb), ?_, metIs_nil, ?_⟩
    · rw [← HB4.out]; exact World.ownsMap_made _ _ _ _
    · exact (Below.refl _ w).alloc (Nat.le_refl _) _
  case round =>
    obtain ⟨j, D, hj, rfl, hv, hin, hmap, hmet, hb⟩ := hrel
    obtain ⟨a', cap', rfl, hvc1, hvc2⟩ := hv.slice'
    have hbl := blocksN_le (L.take j)
    obtain ⟨n', hn'⟩ : ∃ x, (blocksN (L.take j)).length = x := ⟨_, rfl⟩
    rw [hn'] at hv hin hvc1 hbl
    rw [hn']
    have hkl : (keysN (L.take j)).length = n' := by rw [← hn', blocksN_length]
    rw [hkl] at hmap
    have V := Lib.hid hv; have N := Lib.hid hin; have B := Lib.hid hb; have HN := Lib.hid hn'; have MAP := Lib.hid hmap; have MET := Lib.hid hmet
    have HKL := Lib.hid hkl
    have sr := hb.size
    clear hv hin hb hmap hmet hn' hkl hb4
    by_cases hjl : j < nn
    · obtain ⟨b2, off2, rfl, d0⟩ := H.out.cell wr B.out j hjl
      have hs8 := H.out.le j hjl
      have htk : L.take (j + 1) = L.take j ++ [L.getD j 0] := by
        have hjL : j < L.length := by have := HLN.out; omega
        rw [List.take_add_one, List.getD_eq_getElem?_getD, List.getElem?_eq_getElem hjL]; rfl
      obtain ⟨s, hs⟩ : ∃ s, L.getD j 0 = s := ⟨_, rfl⟩
      rw [hs] at d0 hs8 htk
      obtain ⟨k, hk⟩ : ∃ k, s % 120 = k := ⟨_, rfl⟩
      have hk120 : k < 120 := by omega
      have m1 : Int.tmod (s : Int) 120 = (k : Int) := (mod_of hk).1
      have m2 : (s : Int) % 120 = (k : Int) := (mod_of hk).2
      obtain ⟨c, hc⟩ : ∃ c, (keysN (L.take j)).contains k = c := ⟨_, rfl⟩
      have hadd : keysN (L.take (j + 1)) = if c = true then keysN (L.take j) else keysN (L.take j) ++ [k] := by
        rw [htk, keysN_snoc]; unfold addBlk; rw [hk, hc]
      have hat : D.atKey (.int .u8 (k : Int)) (.lit (.bool false)) = .lit (.bool c) := by rw [MET.out k, hc]
      have HAT := Lib.hid hat; have HADD := Lib.hid hadd
      have hwf : (Lit.int .u8 (k : Int)).wf = true := by simp [Lit.wf, IntKind.min, IntKind.max, IntKind.signed, IntKind.bits]; omega
      have HKEY := Lib.hid (keyOf_int_mk (P := Try.prog) Try.underlying5 hwf)
      have q2 : decide ((j : Int) < (nn : Int)) = true := decide_eq_true (by omega)
      have q3 : (0 : Int) ≤ (j : Int) := by omega
      have q4 : (j : Int) < (nn : Int) := by omega
      clear hs hk hc hat hadd htk hwf
      cases c with
      | true =>
        go_wp2_with (at_lookup; refine wpList_lookup_own_bool _ rfl (.tmp 14) (.tmp 16) 86 rfl 5 4 key8 Try.underlying86 Try.underlying4 (zeroB _) b4 _ D rfl MAP.out _ (.int .u8 (k : Int)) rfl HKEY.out true HAT.out ?_)
        go_roundw
        case rel =>
          have e := HADD.out
          rw [if_pos rfl] at e
          refine ⟨j + 1, D, by omega, by go_num, ?_, N.out, ?_, ?_, B.out⟩
          · unfold blocksN; rw [e]; have := V.out; unfold blocksN at this; have hn := HN.out; unfold blocksN at hn; rw [← hn] at this ⊢; exact this
          · rw [e, HKL.out]; exact MAP.out
          · rw [e]; exact MET.out
        case measure => simp [intOf]; omega
      | false =>
        have e1 : (16 : Int) + 16 * (k : Int) = ((blkAt k : Nat) : Int) := by unfold blkAt; omega
        have hbk : blkAt k ≤ 2000 := by unfold blkAt; omega
        obtain ⟨bk, hbke⟩ : ∃ x, blkAt k = x := ⟨_, rfl⟩
        rw [hbke] at e1 hbk
        have HBK := Lib.hid hbke
        clear hbke
        go_wp2_with (first
          | (at_lookup; refine wpList_lookup_own_bool _ rfl (.tmp 14) (.tmp 16) 86 rfl 5 4 key8 Try.underlying86 Try.underlying4 (zeroB _) b4 _ D rfl MAP.out _ (.int .u8 (k : Int)) rfl HKEY.out false HAT.out ?_)
          | (at_mapUpdate; refine wpList_mapUpdate_own _ rfl _ _ _ 86 rfl 5 4 key8 Try.underlying86 _ b4 n' D rfl MAP.out (by unfold maxLen; omega) _ _ _ rfl rfl HKEY.out _ [] (plainElem_bool Try.underlying4 true) ?_; intro w1 hown1 hgrow1; have M1 := Lib.hid hown1; have U1 := Lib.hid (upd_grownBy hgrow1); have V1 := Lib.hid (V.out.upd U1.out (fun b hb e => by have := N.out b hb; omega)); have B1 := Lib.hid (B.out.trans (U1.out.below (B := w.heap.size) (fun k hk => by have := HB4.out; omega) sr)); have s1 := B1.out.size; clear hown1 hgrow1)
          | (at_builtin; refine wpList_append_vec (E := Elem.u64s) rfl (.tmp 22) (.tmp 28) 37 rfl 28 i0 (.int .u64 0) 8 Try.underlying37 hi hz0 hz1 hz2 rfl (.slice a' n' cap') (.slice (some ⟨w1.heap.size, 0, none⟩) 1 1) (blocksN (L.take j)) [bk] rfl rfl (V1.out.alloc _) (u64_oneAt w1 _ bk _ rfl) ?_ ?_ ?_; (have := HN.out; simp only [maxLen, List.length_cons, List.length_nil]; omega); (have := HN.out; simp only [List.length_cons, List.length_nil]; omega); intro v2 w2 hv2 hu2 hin2; have V2 := Lib.hid hv2; have U2 := Lib.hid hu2; have N2 := Lib.hid hin2; clear hv2 hu2 hin2))
        have e := HADD.out
        rw [if_neg (by decide)] at e
        have E2 := Lib.hid e
        have HB4w : b4 ≤ w1.heap.size := by have := HB4.out; omega
        have hlt4 : b4 < w1.heap.size := M1.out.lt
        clear e
        go_roundw
        case rel =>
          have e := E2.out
          refine ⟨j + 1, D.put (.int .u8 (k : Int)) (.lit (.bool true)), by omega, by go_num, ?_, ?_, ?_, ?_, ?_⟩
          · have hb2 : blocksN (L.take (j + 1)) = blocksN (L.take j) ++ [bk] := by unfold blocksN; rw [e, List.map_append, ← HBK.out]; rfl
            have hn := HN.out
            have h3 : (blocksN (L.take (j + 1))).length = n' + 1 := by rw [hb2, List.length_append, hn]; rfl
            have := V2.out
            rw [← hb2] at this
            exact this
          · intro b hb
            rcases N2.out b hb with x | x
            · exact N.out b x
            · simp at x; omega
          · have := ownsMap_upd (M1.out.alloc (.cells #[.int .u64 (bk : Int)] 28)) U2.out (fun hx => by have := N.out b4 hx; omega)
            rw [e, List.length_append, HKL.out]
            exact this
          · rw [e]; exact MET.out.put MAP.out.isMap k
          · exact vec_below (B1.out.alloc s1 _) (Nat.le_trans s1 (by simp)) (fun b hb => by have := N.out b hb; have := HB4.out; omega) U2.out
        case measure => simp [intOf]; omega
    · obtain rfl : j = nn := by omega
      have q2 : decide ((j : Int) < (j : Int)) = false := decide_eq_false (by omega)
      have htk : L.take j = L := by rw [HLN.out, List.take_length]
      have VW := V.out
      rw [htk] at VW
      go_wp2
      go_ret
      refine ⟨_, rfl, VW, fun b hb => ?_, B.out⟩
      have := N.out b hb
      have := HB4.out
      omega
end Go.Proofs.Ytmnnmgphiiedgaa
