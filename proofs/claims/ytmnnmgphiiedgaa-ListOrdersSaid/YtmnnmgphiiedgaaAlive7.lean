/- The laws' 'alive' of layer 7. -/
import Derived.Test.YtmnnmgphiiedgaaListCl
namespace Go.Proofs.Ytmnnmgphiiedgaa
open Go.RowKit ListMath
set_option linter.unusedVariables false

theorem One.make {w w1 : World} {p g : Nat} {L : List Nat} (hm : IsMem w1 p g L) (fp : w.heap.size ≤ p) (fg : w.heap.size ≤ g) (hb : Below w.heap.size w w1) :
    One w p g w1.heap.size ⟨L, 0, 0⟩ (w1.alloc (.cells #[.int .u64 0, .int .i64 0] 33)) :=
  ⟨hm.upd (updFalse_of ((Below.refl _ w1).alloc (Nat.le_refl _) _)) id id, Blk.new w1 _ _, fp, fg, hb.size, hb.alloc hb.size _⟩
set_option maxRecDepth 100000 in
set_option maxHeartbeats 1000000 in
theorem alive_any (w : World) (C : Li w) : Calls Try.prog 10 #[] w fun e w' => e = .returned (.bool true) ∧ Below w.heap.size w w' := by
  obtain ⟨L0, hL0⟩ : ∃ L, MemMath.rep 1024 0 = L := ⟨_, rfl⟩
  have hlen : L0.length = 1024 := by rw [← hL0]; exact MemMath.length_rep _ _
  have hnew := Lib.hid (fun w => new_ok 1024 (by decide) (by decide) (by decide) w)
  unfold Made at hnew
  rw [hL0] at hnew
  obtain ⟨h1, h2, h3, h4⟩ := pushN_good [16, 32] ⟨L0, 0, 0⟩ [] rfl (by show L0.length ≤ _; omega) (by
    intro a ha
    show a ≠ 0 ∧ a + 8 ≤ L0.length
    rcases List.mem_cons.1 ha with rfl | ha
    · omega
    · rw [List.mem_singleton.1 ha]; omega) (by intro a _ b hb; cases hb) (by
    refine List.Pairwise.cons ?_ (List.pairwise_singleton _ _)
    intro b hb
    rw [List.mem_singleton.1 hb]; unfold Apart8; omega)
  obtain ⟨⟨L1, hd, n1⟩, hs⟩ : ∃ s, (pushN ⟨L0, 0, 0⟩ [16, 32]).1 = s := ⟨_, rfl⟩
  rw [hs] at h2 h3 h4
  simp only [List.reverse_cons, List.reverse_nil, List.nil_append, List.append_nil, List.cons_append, List.length_cons, List.length_nil] at h2 h3 h4
  obtain rfl : n1 = 2 := by omega
  have hall : allN ⟨L1, hd, 2⟩ = some [32, 16] := allN_chain h2 rfl (by show 2 ≤ L1.length; omega)
  obtain ⟨rfl, _, _, hk, _, _, _⟩ := h2
  have H1 := Lib.hid h1; have HS := Lib.hid hs; have HALL := Lib.hid hall; have HK := Lib.hid hk
  have hL1 : L1.length = 1024 := by omega
  have HL1 := Lib.hid hL1
  clear h1 hs hall hk h3 h4 hL0 hlen hL1
  go_enter Try.func10, Try.ntmps10
  go_wp2_with fail
  refine (hnew.out _).mono ?_; rintro e w1 ⟨p, g, rfl, hm, fp, fg, hu⟩
  have B1 := hu.below (B := w.heap.size) (fun _ h => h.elim) (Nat.le_refl _)
  have O1 := Lib.hid (One.make hm fp fg B1)
  obtain ⟨lp, hlp⟩ : ∃ b, w1.heap.size = b := ⟨_, rfl⟩
  rw [hlp] at O1
  clear hm fp fg hu B1
  have HP : Hid (∀ w', Below w.heap.size w w' → IsMem w' p g L0 → Blk w' lp 33 (lsC 0 0) → ∀ a, Seq Elem.u64s w' (.slice a 2 2) [16, 32] → (∀ b, In (.slice a 2 2) b → b ≠ g ∧ b ≠ lp) →
      Calls Try.prog 24 #[.pointer (some ⟨lp, 0, none⟩), .pointer (some ⟨p, 0, none⟩), .slice a 2 2] w' fun e w2 => e = .returned (.int .i64 0) ∧ IsMem w2 p g L1 ∧ Blk w2 lp 33 (lsC 32 2) ∧ Upd (fun b => b = g ∨ b = lp) w' w2) := Lib.hid (fun w' hw hm hl a hq hne => by
    have := C.push w' hw (s := ⟨L0, 0, 0⟩) hm hl hq hne (by decide) (by decide) (by decide) (by decide) (show U64B 0 by decide) (show CntB 0 by decide)
    rw [HS.out, H1.out] at this
    exact this)
  have HA : Hid (∀ w', One w p g lp ⟨L1, 32, 2⟩ w' → Calls Try.prog 15 #[.pointer (some ⟨lp, 0, none⟩), .pointer (some ⟨p, 0, none⟩)] w' fun e w2 => ∃ a k cap, e = .returned (.tuple #[.slice a k cap, .int .i64 0]) ∧ Seq Elem.u64s w2 (.slice a k cap) [32, 16] ∧ k ≤ cap ∧ cap ≤ 9223372036854775807 ∧ Below w'.heap.size w' w2) := Lib.hid (fun w' o => by
    have := C.all w' o.below (s := ⟨L1, 32, 2⟩) o.mem o.lst (show U64B 32 by decide) (show CntB 2 by decide)
    rw [HALL.out] at this
    exact this.mono fun e w2 ⟨a, k, cap, h1, h2, h3, h4, _, h6⟩ => ⟨a, k, cap, h1, h2, h3, h4, h6⟩)
  go_wp2_with fail
  refine (HP.out _ (O1.out.alloc _).below (O1.out.alloc _).mem (O1.out.alloc _).lst _ (u64_twoAt _ _ 16 32 _ (by simp [hlp])) (fun b hb => by
    have hb := in_blk hb
    have := O1.out.mem.row.lt
    simp [hlp] at this
    omega)).mono ?_
  rintro e w2 ⟨rfl, hm, hl, hu⟩
  have O2 := Lib.hid ((O1.out.alloc _).turn (t := ⟨L1, 32, 2⟩) hm hl hu (fun b h => h))
  clear hm hl hu hlp
  go_wp2_with fail
  refine (HA.out _ O2.out).mono ?_
  rintro e w3 ⟨a, k, cap, rfl, hq, hk1, hk2, hb⟩
  have O3 := Lib.hid (O2.out.grew hb)
  have Q3 := Lib.hid hq
  have HLD := Lib.hid (load_ok O3.out.mem 32 8 (Or.inr (Or.inr (Or.inr rfl))) (by rw [show (LS.mk L1 32 2).L.length = 1024 from HL1.out]; decide))
  rw [show MemMath.val (MemMath.part (LS.mk L1 32 2).L 32 8) = 16 from HK.out] at HLD
  clear hb hq
  go_wp2_with fail
  refine HLD.out.mono ?_; rintro e w4 ⟨rfl, rfl⟩
  have HSM := Lib.hid (fun (w' : World) (hb : Below w3.heap.size w3 w') (b : Option Addr) (h2 : Seq Elem.u64s w' (.slice b 2 2) [32, 16]) => same7_any w' (Q3.out.below (Nat.le_refl _) hb) h2 (Nat.le_trans hk1 hk2) (by decide))
  have HNIL := Lib.hid (fun w' (o : One w p g lp ⟨L1, 32, 2⟩ w') => C.push_nil w' o.below o.mem)
  clear HP HA HLD HS H1 HALL
  go_wp2_with fail
  refine (HSM.out _ ((Below.refl _ w3).alloc (Nat.le_refl _) _) _ (u64_twoAt w3 _ 32 16 _ rfl)).mono ?_; rintro e w5 ⟨rfl, hb⟩
  have O5 := Lib.hid ((O3.out.alloc _).grew hb)
  clear hb
  go_wp2_with fail
  refine (HNIL.out _ O5.out).mono ?_; rintro e w6 ⟨rfl, hb⟩
  have O6 := Lib.hid (O5.out.grew hb)
  have c1 : w6.cell? ⟨lp, 1, none⟩ = some (.int .i64 2) := O6.out.lst.cell 1
  clear hb
  go_wp2
  go_ret
  exact ⟨rfl, O6.out.below⟩
end Go.Proofs.Ytmnnmgphiiedgaa
