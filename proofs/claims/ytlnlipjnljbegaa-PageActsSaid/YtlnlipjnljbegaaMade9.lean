/- The laws' 'made' of layer 9: a memory and a page of a size and of so many blocks. -/
import Derived.Test.YtlnlipjnljbegaaAlive9
namespace Go.Proofs.Ytlnlipjnljbegaa
open Go.RowKit ListMath PageMath GeoMath
set_option linter.unusedVariables false

def sizeN (a : Nat) : Nat := 16 * (a % 16 + 1)
def countN (a : Nat) : Nat := a % 60 + 1
theorem made_good {L : List Nat} {a b : Nat} (hl : L.length = 65536) : GoodP L (newPG 1024 (sizeN a) (countN b)) := by
  have h1 : sizeN a ≤ 256 := by unfold sizeN; omega
  have h2 : countN b ≤ 60 := by unfold countN; omega
  have h3 : 16 ≤ sizeN a := by unfold sizeN; omega
  have h4 : 1 ≤ countN b := by unfold countN; omega
  have h5 : countN b * sizeN a ≤ 60 * 256 := Nat.mul_le_mul h2 h1
  exact GoodP.new (by decide) h3 h4 (by omega) (by rw [hl]; omega) (by rw [hl]; decide)
set_option maxRecDepth 100000 in
set_option maxHeartbeats 2000000 in
theorem made_any (w : World) (C : PgC w) (a b : Nat) (ha : a ≤ 255) (hb : b ≤ 255) (w' : World) (hw : Below w.heap.size w w') : Calls Try.prog 25 #[.int .u8 (a : Int), .int .u8 (b : Int)] w' fun e w2 => ∃ pp p g O nb c L, e = .returned (.tuple #[.pointer (some ⟨pp, 0, none⟩), .pointer (some ⟨p, 0, none⟩), runV 1024 (sizeN a) (countN b : Int), .bool true]) ∧ Has C pp p g O nb c L (newPG 1024 (sizeN a) (countN b)) w2 ∧ L.length = 65536 ∧ nb = w2.heap.size := by
  obtain ⟨s, hs⟩ : ∃ s, sizeN a = s := ⟨_, rfl⟩
  obtain ⟨n, hn⟩ : ∃ n, countN b = n := ⟨_, rfl⟩
  have HGO := Lib.hid (fun (L : List Nat) (hl : L.length = 65536) => made_good (a := a) (b := b) hl)
  have e1 : (16 : Int) * ((a : Int) % 16 + 1) = (s : Int) := by rw [← hs]; unfold sizeN; omega
  have e2 : (b : Int) % 60 + 1 = (n : Int) := by rw [← hn]; unfold countN; omega
  have hs2 : s ≤ 256 := by rw [← hs]; unfold sizeN; omega
  have hn2 : n ≤ 60 := by rw [← hn]; unfold countN; omega
  rw [hs, hn] at HGO
  rw [hs, hn]
  have HW := Lib.hid hw
  clear hs hn hw
  go_enter Try.func25, Try.ntmps25
  go_wp2_with fail
  have b6 := Blk.new w' 34 #[.int .u64 0, .int .u64 0, .int .i64 0]
  obtain ⟨w1, hw1⟩ : ∃ x, w'.alloc (.cells #[.int .u64 0, .int .u64 0, .int .i64 0] 34) = x := ⟨_, rfl⟩
  have s1 : w1.heap.size = w'.heap.size + 1 := by rw [← hw1]; simp
  have B1 : Hid (Below w.heap.size w w1) := Lib.hid (by rw [← hw1]; exact HW.out.alloc HW.out.size _)
  rw [hw1] at b6 ⊢
  have B6 := Lib.hid b6; have S1 := Lib.hid s1
  clear b6 hw1 s1
  refine (newMem 65536 (by decide) (by decide) (by decide) _).mono ?_; rintro e w2 ⟨p, g, L0, rfl, hm, hlen, fp, fg, hb⟩
  have M2 := Lib.hid hm; have HB2 := Lib.hid hb; have HLN := Lib.hid hlen; have FP := Lib.hid fp; have FG := Lib.hid fg
  clear hm hlen hb fp fg
  go_wp2_with fail
  have b10 := Blk.new w2 34 #[.int .u64 1024, .int .u64 (s : Int), .int .i64 (n : Int)]
  have hb3 := (Below.refl w2.heap.size w2).alloc (Nat.le_refl _) (.cells #[.int .u64 1024, .int .u64 (s : Int), .int .i64 (n : Int)] 34)
  obtain ⟨w3, hw3⟩ : ∃ x, w2.alloc (.cells #[.int .u64 1024, .int .u64 (s : Int), .int .i64 (n : Int)] 34) = x := ⟨_, rfl⟩
  rw [hw3] at b10 hb3 ⊢
  have hb13 := HB2.out.trans (hb3.mono HB2.out.size)
  have hB3 := below_then B1.out B1.out.size hb13
  refine (has_new (C := C) hB3 (M2.out.upd (updFalse_of hb3) id id) (Nat.le_trans B1.out.size FP.out) (Nat.le_trans B1.out.size FG.out) (HGO.out L0 HLN.out)).mono ?_
  rintro e w4 ⟨pp, c, O, nb, rfl, hh, hnb, hO, hb4⟩
  have k10 := b10.grew hb4
  have k6 := (B6.out.grew hb13).grew hb4
  have hO6 : ¬ O w'.heap.size := fun x => by
    have h1 := S1.out; have h2 := FP.out; have h3 := FG.out; have h4 := hb13.size
    rcases hO _ x with h | h | h <;> omega
  have H4 := Lib.hid hh; have K6 := Lib.hid k6; have O6 := Lib.hid hO6; have HNB := Lib.hid hnb
  have f0 : w4.cell? ⟨w2.heap.size, 0, none⟩ = some (.int .u64 1024) := k10.cell 0
  have f1 : w4.cell? ⟨w2.heap.size, 1, none⟩ = some (.int .u64 (s : Int)) := k10.cell 1
  have f2 : w4.cell? ⟨w2.heap.size, 2, none⟩ = some (.int .i64 (n : Int)) := k10.cell 2
  have d0 : w4.cell? ⟨w'.heap.size, 0, none⟩ = some (.int .u64 0) := k6.cell 0
  have d1 : w4.cell? ⟨w'.heap.size, 1, none⟩ = some (.int .u64 0) := k6.cell 1
  have d2 : w4.cell? ⟨w'.heap.size, 2, none⟩ = some (.int .i64 0) := k6.cell 2
  have g0 := k6.frozen 0
  have g1 := k6.frozen 1
  have g2 := k6.frozen 2
  clear b10 hb3 hw3 hb13 hB3 hh hnb hO hb4 k10 k6 hO6
  go_wp2_with fail
  go_region
  have H5 : Has C pp p g O nb c L0 (newPG 1024 s n) (((w4.setCell ⟨w'.heap.size, 0, none⟩ (.int .u64 1024)).setCell ⟨w'.heap.size, 1, none⟩ (.int .u64 (s : Int))).setCell ⟨w'.heap.size, 2, none⟩ (.int .i64 (n : Int))).drew := by
    have u : Upd (fun b => b = w'.heap.size) w4 (((w4.setCell ⟨w'.heap.size, 0, none⟩ (.int .u64 1024)).setCell ⟨w'.heap.size, 1, none⟩ (.int .u64 (s : Int))).setCell ⟨w'.heap.size, 2, none⟩ (.int .i64 (n : Int))) := (((Upd.refl (fun b => b = w'.heap.size) w4).setCell (.inl rfl) _).setCell (.inl rfl) _).setCell (.inl rfl) _
    exact Has.drew (H4.out.upd' u (fun b (e : b = w'.heap.size) => by rw [e]; exact ⟨O6.out, HW.out.size⟩))
  have k6 := (((K6.out.put 0 (.int .u64 1024)).put 1 (.int .u64 (s : Int))).put 2 (.int .i64 (n : Int))).drew
  have q0 := k6.cell 0
  have q1 := k6.cell 1
  have q2 := k6.cell 2
  have hsz : (((w4.setCell ⟨w'.heap.size, 0, none⟩ (.int .u64 1024)).setCell ⟨w'.heap.size, 1, none⟩ (.int .u64 (s : Int))).setCell ⟨w'.heap.size, 2, none⟩ (.int .i64 (n : Int))).drew.heap.size = w4.heap.size := by simp [World.drew]
  generalize (((w4.setCell ⟨w'.heap.size, 0, none⟩ (.int .u64 1024)).setCell ⟨w'.heap.size, 1, none⟩ (.int .u64 (s : Int))).setCell ⟨w'.heap.size, 2, none⟩ (.int .i64 (n : Int))).drew = w5 at *
  clear f0 f1 f2 d0 d1 d2 g0 g1 g2
  go_wp2
  refine bodyPost_ret (v := .tuple #[.pointer (some ⟨pp, 0, none⟩), .pointer (some ⟨p, 0, none⟩), .agg #[.int .u64 1024, .int .u64 (s : Int), .int .i64 (n : Int)], .bool true]) (by simp at q0 q1 q2; simp [results, Try.results25, go_sem, q0, q1, q2]) rfl ⟨pp, p, g, O, nb, c, L0, rfl, H5, HLN.out, by rw [hsz]; exact HNB.out⟩
end Go.Proofs.Ytlnlipjnljbegaa
