/- The document's own memory (allotmentref02): New, Load and Store of words of 8 bytes, Put, Same: contracts. -/
import Derived.Test.YtmnnmgphiiedgaaMem2
import Derived.Test.YtmnnmgphiiedgaaElems
namespace Go.Proofs.Ytmnnmgphiiedgaa
open Go.RowKit
set_option linter.unusedVariables false

/-- The document's memory at block q: its bytes lie in block h. -/
structure IsRef (w : World) (q h : Nat) (L : List Nat) : Prop where
  head : Blk w q 63 #[.slice (some ⟨h, 0, none⟩) L.length L.length]
  row : Bytes w 5 h L
  byt : MemMath.Byt L
  big : L.length ≤ 1048576
theorem IsRef.upd {S : Nat → Prop} {w w' : World} {q h : Nat} {L : List Nat} (r : IsRef w q h L) (u : Upd S w w') (hp : ¬ S q) (hg : ¬ S h) : IsRef w' q h L := ⟨r.head.upd u hp, r.row.upd u hg, r.byt, r.big⟩
theorem IsRef.ne {w : World} {q h : Nat} {L : List Nat} (r : IsRef w q h L) : q ≠ h := Blk.ne r.head r.row (by decide)
theorem IsRef.written {w w' : World} {q h : Nat} {L M : List Nat} (r : IsRef w q h L) (u : Upd (fun k => k = h) w w') (hr : Bytes w' 5 h M) (hl : M.length = L.length) (hb : MemMath.Byt M) : IsRef w' q h M :=
  ⟨by rw [hl]; exact r.head.upd u r.ne, hr, hb, by rw [hl]; exact r.big⟩
theorem ref_new (n : Nat) (h0 : 1024 ≤ n) (h1 : n ≤ 1048576) (h2 : n % 1024 = 0) (w : World) :
    Calls Try.prog 12 #[.int .u64 (n : Int)] w fun e w' => ∃ q h, e = .returned (.tuple #[.pointer (some ⟨q, 0, none⟩), .bool true]) ∧ IsRef w' q h (MemMath.rep n 0) ∧ w.heap.size ≤ q ∧ w.heap.size ≤ h ∧ Upd (fun _ => False) w w' := by
  obtain ⟨i0, hi, hz0, hz1, hz2⟩ := info_parts info8
  have e1 : Int.tmod (n : Int) 1024 = 0 := by rw [show (1024 : Int) = ((1024 : Nat) : Int) from rfl, ← Int.ofNat_tmod, h2]; rfl
  have e2 : (n : Int) % 1024 = 0 := by omega
  have t0 : ((n : Int) == 0) = false := by rw [beq_eq_false_iff_ne]; omega
  have t1 : decide ((1048576 : Int) < (n : Int)) = false := decide_eq_false (by omega)
  clear h2
  go_enter Try.func12, Try.ntmps12
  go_wp2_with (at_make; refine wpList_make_bytes rfl _ _ 58 rfl 5 i0 Try.underlying58 hi hz0 hz1 hz2 _ _ _ n rfl rfl rfl ?_ ?_; omega; intro w1 hr hu hs)
  have S1 := Lib.hid hs; have R1 := Lib.hid hr; have U1 := Lib.hid hu
  clear hs hr hu
  go_wp2
  go_ret2
  refine ⟨w.heap.size + 1, w.heap.size, rfl, ⟨?_, R1.out.alloc _, MemMath.byt_rep (by decide), by rw [MemMath.length_rep]; exact h1⟩, by omega, Nat.le_refl _, U1.out.alloc _⟩
  rw [MemMath.length_rep, ← S1.out]
  exact Blk.new w1 _ _
theorem ref_in (w : World) {q h : Nat} {L : List Nat} (r : IsRef w q h L) (a n : Nat) (ha : a ≤ 18446744073709551615) (hn : n ≤ 18446744073709551615) :
    Calls Try.prog 42 #[.pointer (some ⟨q, 0, none⟩), .int .u64 (a : Int), .int .u64 (n : Int)] w fun e w' => e = .returned (.bool (decide (a + n ≤ L.length))) ∧ w = w' := by
  have hb := r.big
  have hc : w.cell? ⟨q, 0, none⟩ = some (.slice (some ⟨h, 0, none⟩) L.length L.length) := r.head.cell 0
  obtain ⟨m, hm⟩ : ∃ m, L.length = m := ⟨_, rfl⟩
  rw [hm] at hc hb ⊢
  have w1 : IntKind.u64.wrap (m : Int) = (m : Int) := u64_in _ ⟨by omega, by omega⟩
  clear r hm
  by_cases h1 : a ≤ m
  · have t1 : decide ((a : Int) ≤ (m : Int)) = true := decide_eq_true (by omega)
    have t1' : decide (a ≤ m) = true := decide_eq_true h1
    have t2 : decide ((n : Int) ≤ (m : Int) - (a : Int)) = decide (a + n ≤ m) := by rw [Bool.eq_iff_iff, decide_eq_true_iff, decide_eq_true_iff]; omega
    obtain ⟨c, hcc⟩ : ∃ c, decide (a + n ≤ m) = c := ⟨_, rfl⟩
    rw [hcc] at t2 ⊢
    clear hcc
    go_enter Try.func42, Try.ntmps42
    go_wp2
    go_ret
    exact ⟨by simp, rfl⟩
  · have t1 : decide ((a : Int) ≤ (m : Int)) = false := decide_eq_false (by omega)
    have t1' : decide (a ≤ m) = false := decide_eq_false h1
    rw [decide_eq_false (show ¬ a + n ≤ m by omega)]
    go_enter Try.func42, Try.ntmps42
    go_wp2
    go_ret
    exact ⟨rfl, rfl⟩
theorem ref_may8 (w : World) : Calls Try.prog 37 #[.int .i64 8] w fun e w' => e = .returned (.bool true) ∧ w = w' := by
  go_enter Try.func37, Try.ntmps37
  go_wp2
  go_ret
  exact ⟨rfl, rfl⟩
theorem part_cons {L : List Nat} {a n : Nat} (h : a < L.length) : MemMath.part L a (n + 1) = L.getD a 0 :: MemMath.part L (a + 1) n := by
  unfold MemMath.part
  rw [List.drop_eq_getElem_cons h, List.take_succ_cons]
  simp [List.getD_eq_getElem?_getD, h]
set_option maxHeartbeats 1000000 in
theorem ref_load (w : World) {q h : Nat} {L : List Nat} (r : IsRef w q h L) (a : Nat) (ha : a ≤ 18446744073709551615) :
    Calls Try.prog 31 #[.pointer (some ⟨q, 0, none⟩), .int .u64 (a : Int), .int .i64 8] w fun e w' => e = .returned (.tuple (if a + 8 ≤ L.length then #[.int .u64 ((MemMath.val (MemMath.part L a 8) : Nat) : Int), .int .i64 0] else #[.int .u64 0, .int .i64 3])) ∧ w = w' := by
  have hb := r.big
  have HI := Lib.hid (ref_in w r a 8 ha (by decide))
  have HY := Lib.hid (ref_may8 w)
  by_cases hin : a + 8 ≤ L.length
  · rw [if_pos hin]
    rw [decide_eq_true hin] at HI
    have hc : w.cell? ⟨q, 0, none⟩ = some (.slice (some ⟨h, 0, none⟩) L.length L.length) := r.head.cell 0
    obtain ⟨m, hm⟩ : ∃ m, L.length = m := ⟨_, rfl⟩
    have HR := Lib.hid r; have HM := Lib.hid hm
    rw [hm] at hc hb hin
    clear r hm
    go_enter Try.func31, Try.ntmps31
    go_wp2_with (first | (go_at_call 37; refine HY.out.mono ?_; rintro e w' ⟨rfl, rfl⟩) | (go_at_call 42; refine HI.out.mono ?_; rintro e w' ⟨rfl, rfl⟩))
    go_loop [8, 9] (fun x i => ∃ (I : Int) (y : Nat), -1 ≤ I ∧ I ≤ 7 ∧ i = .int .i64 I ∧ x = .int .u64 (y : Int) ∧ y = MemMath.val (MemMath.part L (a + (I + 1).toNat) (7 - I).toNat)) (fun x i => (intOf i + 1).toNat)
    case atStart => exact ⟨7, 0, by decide, by decide, rfl, rfl, by rw [show (7 - 7 : Int).toNat = 0 from rfl]; simp [MemMath.part, MemMath.val]⟩
    case round =>
      obtain ⟨I, y, hI1, hI2, rfl, rfl, hy⟩ := hrel
      by_cases hneg : I < 0
      · have hI : I = -1 := by omega
        subst hI
        have t1 : decide ((0 : Int) ≤ -1) = false := by decide
        rw [show ((-1 : Int) + 1).toNat = 0 from rfl, show (7 - -1 : Int).toNat = 8 from rfl, Nat.add_zero] at hy
        have HYY := Lib.hid hy
        clear hy
        go_wp2
        go_ret2
        rw [← HYY.out]
        exact ⟨rfl, rfl⟩
      · obtain ⟨i, rfl⟩ := Int.eq_ofNat_of_zero_le (show 0 ≤ I by omega)
        rw [show (7 - (i : Int)).toNat = 7 - i by omega, show a + ((i : Int) + 1).toNat = a + i + 1 by omega] at hy
        have hyl : y < 256 ^ (7 - i) := by
          rw [hy]
          have := MemMath.val_lt (HR.out.byt.part (a + i + 1) (7 - i))
          rw [MemMath.length_part (by rw [HM.out]; omega)] at this
          exact this
        have hy7 : y < 256 ^ 7 := Nat.lt_of_lt_of_le hyl (Nat.pow_le_pow_right (by decide) (by omega))
        have hcell := HR.out.row.cell (a + i) (by rw [HM.out]; omega)
        have hnext : MemMath.val (MemMath.part L (a + i) (8 - i)) = L.getD (a + i) 0 + 256 * y := by
          rw [show 8 - i = (7 - i) + 1 by omega, part_cons (by rw [HM.out]; omega), MemMath.val, hy]
        have hb8 := HR.out.byt.getD (a + i)
        obtain ⟨c, hcc⟩ : ∃ c, L.getD (a + i) 0 = c := ⟨_, rfl⟩
        rw [hcc] at hcell hnext hb8
        have HNEXT := Lib.hid hnext
        have t1 : decide ((0 : Int) ≤ (i : Int)) = true := decide_eq_true (by omega)
        obtain ⟨ai, hai⟩ : ∃ x, a + i = x := ⟨_, rfl⟩
        rw [hai] at hcell
        have e1 : (a : Int) + (i : Int) = (ai : Int) := by omega
        have w1 : IntKind.u64.wrap (i : Int) = (i : Int) := u64_in _ ⟨by omega, by omega⟩
        have w2 : IntKind.u64.wrap (c : Int) = (c : Int) := u64_in _ ⟨by omega, by omega⟩
        have k0 : (0 : Int) ≤ (ai : Int) := by omega
        have k1 : (ai : Int) < (m : Int) := by omega
        have HAI := Lib.hid hai
        have hyb : y < 72057594037927936 := hy7
        clear hy hyl hnext hcc hai hneg hy7
        go_wp2
        go_round
        case rel =>
          refine ⟨(i : Int) - 1, c + 256 * y, by omega, by omega, by go_num, ?_, ?_⟩
          · have : (y : Int) * 256 + (c : Int) = ((c + 256 * y : Nat) : Int) := by omega
            rw [← this]
          · rw [← HNEXT.out, show a + ((i : Int) - 1 + 1).toNat = a + i by omega, show (7 - ((i : Int) - 1)).toNat = 8 - i by omega]
        case measure => simp [intOf]
  · rw [if_neg hin]
    rw [decide_eq_false hin] at HI
    clear r hin hb
    go_enter Try.func31, Try.ntmps31
    go_wp2_with (first | (go_at_call 37; refine HY.out.mono ?_; rintro e w' ⟨rfl, rfl⟩) | (go_at_call 42; refine HI.out.mono ?_; rintro e w' ⟨rfl, rfl⟩))
    go_ret2
    exact ⟨rfl, rfl⟩
def Putting (w : World) (h a n : Nat) (L bs : List Nat) (i : Value) (wr : World) : Prop :=
  ∃ k : Nat, k ≤ n ∧ i = .int .i64 (k : Int) ∧ Bytes wr 5 h (splice L a (bs.take k)) ∧ Upd (fun b => b = h) w wr
theorem splice_set {L bs : List Nat} {a k : Nat} (hk : k < bs.length) (h : a + bs.length ≤ L.length) : (splice L a (bs.take k)).set (a + k) (bs.getD k 0) = splice L a (bs.take (k + 1)) := by
  have h1 : (bs.take k).length = k := by rw [List.length_take]; omega
  have h2 : (bs.take (k + 1)).length = k + 1 := by rw [List.length_take]; omega
  apply MemMath.ext_getD
  · rw [List.length_set, MemMath.length_splice' (by rw [h1]; omega), MemMath.length_splice' (by rw [h2]; omega)]
  · intro i hi
    rw [List.length_set, MemMath.length_splice' (by rw [h1]; omega)] at hi
    rw [MemMath.getD_splice (by rw [h2]; omega), h2]
    by_cases he : i = a + k
    · subst he
      rw [if_pos (by omega), show a + k - a = k by omega]
      simp only [List.getD_eq_getElem?_getD]
      rw [List.getElem?_set_self (by rw [MemMath.length_splice' (by rw [h1]; omega)]; omega), List.getElem?_take_of_lt (by omega)]
      rfl
    · have e : ((splice L a (bs.take k)).set (a + k) (bs.getD k 0)).getD i 0 = (splice L a (bs.take k)).getD i 0 := by
        simp only [List.getD_eq_getElem?_getD]
        rw [List.getElem?_set_ne (fun x => he x.symm)]
      rw [e, MemMath.getD_splice (by rw [h1]; omega), h1]
      by_cases hc : a ≤ i ∧ i < a + k
      · rw [if_pos hc, if_pos (by omega)]
        simp only [List.getD_eq_getElem?_getD]
        rw [List.getElem?_take_of_lt (by omega), List.getElem?_take_of_lt (by omega)]
      · rw [if_neg hc, if_neg (by omega)]
set_option maxHeartbeats 1000000 in
theorem ref_put (w : World) {q h : Nat} {L : List Nat} (r : IsRef w q h L) (a : Nat) (ha : a ≤ 18446744073709551615) (bs : List Nat) (g off cap : Nat) (hgh : g ≠ h) (hB : ∀ j, j < bs.length → w.cell? ⟨g, off + j, none⟩ = some (.int .u8 ((bs.getD j 0 : Nat) : Int))) (hbyt : MemMath.Byt bs) (hl : bs.length ≤ 100) (h0 : 0 < bs.length) :
    Calls Try.prog 38 #[.pointer (some ⟨q, 0, none⟩), .int .u64 (a : Int), .slice (some ⟨g, off, none⟩) bs.length cap] w fun e w' => e = .returned (.int .i64 (if a + bs.length ≤ L.length then 0 else 3)) ∧ IsRef w' q h (if a + bs.length ≤ L.length then splice L a bs else L) ∧ Upd (fun b => b = h) w w' := by
  have hb := r.big
  have HI := Lib.hid (ref_in w r a bs.length ha (by omega))
  obtain ⟨n, hn⟩ : ∃ n, bs.length = n := ⟨_, rfl⟩
  have HN := Lib.hid hn; have HBY := Lib.hid hbyt
  rw [hn] at HI hB hl h0
  rw [hn]
  have w1 : IntKind.u64.wrap (n : Int) = (n : Int) := u64_in _ ⟨by omega, by omega⟩
  have HR := Lib.hid r
  have hgl := World.block_lt_of_cell? w _ (hB 0 h0)
  have HB := Lib.hid hB
  by_cases hin : a + n ≤ L.length
  · rw [if_pos hin, if_pos hin]
    rw [decide_eq_true hin] at HI
    obtain ⟨m, hm⟩ : ∃ m, L.length = m := ⟨_, rfl⟩
    have HM := Lib.hid hm
    rw [hm] at hb hin
    have hqh := r.ne
    clear r hm hn hB hbyt
    go_enter Try.func38, Try.ntmps38
    go_wp2_with (go_at_call 42; refine HI.out.mono ?_; rintro e w' ⟨rfl, rfl⟩)
    go_loopw [18] (fun i wr => Putting w h a n L bs i wr) (fun i _ => n - (intOf i).toNat)
    case atStart => exact ⟨0, Nat.zero_le _, rfl, by rw [List.take_zero, MemMath.splice_nil]; exact HR.out.row, Upd.refl _ _⟩
    case round =>
      obtain ⟨k, hk, rfl, hr, hu⟩ := hrel
      have BR := Lib.hid hr; have UR := Lib.hid hu
      by_cases hlt : k < n
      · have hc : wr.cell? ⟨q, 0, none⟩ = some (.slice (some ⟨h, 0, none⟩) m m) := by rw [← HM.out]; exact (HR.out.head.upd UR.out hqh).cell 0
        have d0 : wr.cell? ⟨g, off + k, none⟩ = some (.int .u8 ((bs.getD k 0 : Nat) : Int)) := (World.cell?_of_block (a := ⟨g, off + k, none⟩) (UR.out.block g hgl hgh)).trans (HB.out k hlt)
        have hlen : (splice L a (bs.take k)).length = m := by rw [MemMath.length_splice' (by rw [List.length_take, HM.out, HN.out]; omega), HM.out]
        have d1 : wr.cell? ⟨h, a + k, none⟩ = some (.int .u8 (((splice L a (bs.take k)).getD (a + k) 0 : Nat) : Int)) := hr.cell _ (by rw [hlen]; omega)
        have d2 : wr.frozen? ⟨h, a + k, none⟩ = false := hr.frozen _
        obtain ⟨c, hcc⟩ : ∃ c, (splice L a (bs.take k)).getD (a + k) 0 = c := ⟨_, rfl⟩
        obtain ⟨x, hx⟩ : ∃ c, bs.getD k 0 = c := ⟨_, rfl⟩
        obtain ⟨ak, hak⟩ : ∃ c, a + k = c := ⟨_, rfl⟩
        rw [hcc] at d1
        rw [hx] at d0
        rw [hak] at d1 d2
        have HX := Lib.hid hx; have HAK := Lib.hid hak
        have e1 : (a : Int) + (k : Int) = (ak : Int) := by omega
        have w2 : IntKind.u64.wrap (k : Int) = (k : Int) := u64_in _ ⟨by omega, by omega⟩
        have k0 : (0 : Int) ≤ (ak : Int) := by omega
        have k1 : (ak : Int) < (m : Int) := by omega
        have k2 : (0 : Int) ≤ (k : Int) := by omega
        have k3 : (k : Int) < (n : Int) := by omega
        have t1 : decide ((k : Int) < (n : Int)) = true := decide_eq_true (by omega)
        clear hr hu hcc hx hak hlen
        go_wp2
        go_roundw
        case rel =>
          refine ⟨k + 1, by omega, by go_num, ?_, UR.out.setCell (.inl rfl) _⟩
          rw [← splice_set (by rw [HN.out]; exact hlt) (by rw [HN.out, HM.out]; exact hin), HX.out, HAK.out]
          exact BR.out.put ak x _ rfl
        case measure => simp [intOf]; omega
      · obtain rfl : k = n := by omega
        have t1 : decide ((k : Int) < (k : Int)) = false := decide_eq_false (by omega)
        have htk : bs.take k = bs := by rw [← HN.out, List.take_length]
        rw [htk] at BR
        clear hr hu htk
        go_wp2
        go_ret
        exact ⟨rfl, HR.out.written UR.out BR.out (MemMath.length_splice' (by rw [HN.out, HM.out]; exact hin)) (HR.out.byt.splice HBY.out _), UR.out⟩
  · rw [if_neg hin, if_neg hin]
    rw [decide_eq_false hin] at HI
    clear r hin hb hB hbyt hn
    go_enter Try.func38, Try.ntmps38
    go_wp2_with (go_at_call 42; refine HI.out.mono ?_; rintro e w' ⟨rfl, rfl⟩)
    go_ret
    exact ⟨rfl, HR.out, Upd.refl _ _⟩
def Elem.u8s : Elem Nat := ⟨1, fun n => [.int .u8 (n : Int)], fun _ => rfl, by intro x u h; rw [List.mem_singleton.1 h]; rfl, by decide⟩
theorem u8_oneAt (w : World) (t : TypeId) (x g : Nat) (hg : g = w.heap.size) : Seq Elem.u8s (w.alloc (.cells #[.int .u8 (x : Int)] t)) (.slice (some ⟨g, 0, none⟩) 1 1) [x] := by
  subst hg; exact Seq.new w t [x] 1
def Storing (w : World) (x : Nat) (v y i : Value) (wr : World) : Prop :=
  ∃ (k z : Nat), k ≤ 8 ∧ i = .int .i64 (k : Int) ∧ y = .int .u64 (z : Int) ∧ z = x / 256 ^ k ∧ Vec Elem.u8s wr v (MemMath.le k x) ∧ (∀ b, In v b → w.heap.size ≤ b) ∧ Below w.heap.size w wr
theorem Upd.after {S : Nat → Prop} {w w' w2 : World} (hb : Below w.heap.size w w') (u : Upd S w' w2) : Upd S w w2 :=
  ((updFalse_of hb).mono (fun _ h => h.elim)).trans u
set_option maxHeartbeats 2000000 in
theorem ref_store (w : World) {q h : Nat} {L : List Nat} (r : IsRef w q h L) (a x : Nat) (ha : a ≤ 18446744073709551615) (hx : x ≤ 18446744073709551615) :
    Calls Try.prog 21 #[.pointer (some ⟨q, 0, none⟩), .int .u64 (a : Int), .int .i64 8, .int .u64 (x : Int)] w fun e w' => e = .returned (.int .i64 (if a + 8 ≤ L.length then 0 else 3)) ∧ IsRef w' q h (if a + 8 ≤ L.length then MemMath.put8 L a x else L) ∧ Upd (fun b => b = h) w w' := by
  obtain ⟨i0, hi, hz0, hz1, hz2⟩ := info_parts info8
  have HY := Lib.hid (fun w => ref_may8 w)
  have HR := Lib.hid r
  have hql := r.head.lt
  have hhl := r.row.lt
  obtain ⟨E, hE⟩ : ∃ E : Int, (if a + 8 ≤ L.length then (0 : Int) else 3) = E := ⟨_, rfl⟩
  obtain ⟨M, hM⟩ : ∃ M, (if a + 8 ≤ L.length then MemMath.put8 L a x else L) = M := ⟨_, rfl⟩
  rw [hE, hM]
  unfold MemMath.put8 at hM
  have HE := Lib.hid hE; have HM := Lib.hid hM
  clear r hE hM
  go_enter Try.func21, Try.ntmps21
  go_wp2_with (go_at_call 37; refine (HY.out _).mono ?_; rintro e w' ⟨rfl, rfl⟩)
  go_loopw [9, 10, 11] (fun v y i wr => Storing w x v y i wr) (fun v y i _ => 8 - (intOf i).toNat)
  case atStart => exact ⟨0, x, by decide, rfl, rfl, by simp, Vec.nil _, (by intro b hb; cases hb), Below.refl _ _⟩
  case round =>
    obtain ⟨k, z, hk, rfl, rfl, hz, hv, hin, hb⟩ := hrel
    obtain ⟨a', cap', rfl, hc1, hc2⟩ := hv.slice'
    rw [MemMath.length_le] at hv hin hc1
    rw [MemMath.length_le]
    have V := Lib.hid hv; have N := Lib.hid hin; have B := Lib.hid hb; have HZ := Lib.hid hz
    have sr := hb.size
    have hzx : z ≤ 18446744073709551615 := by rw [hz]; exact Nat.le_trans (Nat.div_le_self _ _) hx
    clear hv hin hb hz
    by_cases hk8 : k < 8
    · obtain ⟨c, hc⟩ : ∃ c, z % 256 = c := ⟨_, rfl⟩
      obtain ⟨z', hz'⟩ : ∃ c, z / 256 = c := ⟨_, rfl⟩
      have t1 : decide ((k : Int) < 8) = true := decide_eq_true (by omega)
      have m1 : Int.tmod (z : Int) 256 = (c : Int) := by rw [← hc]; exact (Int.ofNat_tmod _ _).symm
      have m2 : (z : Int) % 256 = (c : Int) := by rw [← hc]; exact (Int.natCast_emod _ _).symm
      have m3 : Int.tdiv (z : Int) 256 = (z' : Int) := by rw [← hz']; exact (Int.ofNat_tdiv _ _).symm
      have m4 : (z : Int) / 256 = (z' : Int) := by rw [← hz']; exact (Int.natCast_ediv _ _).symm
      have hc256 : c < 256 := by omega
      have hw8 : IntKind.u8.wrap (c : Int) = (c : Int) := by simp [IntKind.wrap, IntKind.bits, IntKind.signed]; omega
      have HL : Hid (MemMath.le (k + 1) x = MemMath.le k x ++ [c]) := Lib.hid (by rw [MemMath.le_succ, ← HZ.out, hc])
      have HZ' : Hid (z' = x / 256 ^ (k + 1)) := Lib.hid (by rw [← hz', HZ.out, Nat.div_div_eq_div_mul, Nat.pow_succ])
      have HLN : Hid ((MemMath.le k x).length = k) := Lib.hid (MemMath.length_le k x)
      clear hc hz'
      go_wp2_with (at_builtin; refine wpList_append_vec (E := Elem.u8s) rfl (.tmp 21) (.tmp 25) 58 rfl 5 i0 (.int .u8 0) 1 Try.underlying58 hi hz0 hz1 hz2 rfl (.slice a' k cap') (.slice (some ⟨wr.heap.size, 0, none⟩) 1 1) (MemMath.le k x) [c] rfl rfl (V.out.alloc _) (u8_oneAt _ _ c _ rfl) ?_ ?_ ?_; (rw [HLN.out]; simp only [maxLen, List.length_cons, List.length_nil]; omega); (rw [HLN.out]; simp only [List.length_cons, List.length_nil]; omega); intro v2 w2 hv2 hu2 hin2; have V2 := Lib.hid hv2; have BZ := Lib.hid (vec_below (B.out.alloc sr _) (Nat.le_trans sr (by simp)) N.out hu2); have N2 := Lib.hid hin2; clear hv2 hu2 hin2)
      go_roundw
      case rel =>
        refine ⟨k + 1, z', by omega, by go_num, rfl, HZ'.out, by rw [HL.out]; exact V2.out, fun b hb => ?_, BZ.out⟩
        rcases N2.out b hb with y | y
        · exact N.out b y
        · simp at y; omega
      case measure => simp [intOf]; omega
    · obtain rfl : k = 8 := by omega
      have t1 : decide (((8 : Nat) : Int) < 8) = false := by decide
      have hz0' : z = 0 := by rw [HZ.out]; exact Nat.div_eq_of_lt (by omega)
      subst hz0'
      have t2 : decide ((0 : Int) < ((0 : Nat) : Int)) = false := by decide
      rcases V.out with ⟨e, he⟩ | ⟨g, off, cap2, e, hg, h1, h2, h3, h4⟩
      · injection e with _ e _; cases e
      · injection e with e1 e2 e3
        subst e1 e3
        have hRr := HR.out.upd (updFalse_of B.out) id id
        have hgn := N.out g rfl
        have hP := ref_put wr hRr a ha (MemMath.le 8 x) g off cap' (by omega) (fun j hj => h3 j _ (by
          rw [show Elem.u8s.all (MemMath.le 8 x) = (MemMath.le 8 x).map (fun n : Nat => Value.int .u8 (n : Int)) by
            have : ∀ l : List Nat, Elem.u8s.all l = l.map (fun n : Nat => Value.int .u8 (n : Int)) := fun l => by
              induction l with
              | nil => rfl
              | cons y t ih => rw [Elem.all_cons, ih]; rfl
            exact this _]
          rw [List.getElem?_map, getElem?_getD8 hj]; rfl)) (MemMath.byt_le _ _) (by rw [MemMath.length_le]; decide) (by rw [MemMath.length_le]; decide)
        rw [MemMath.length_le, HE.out, HM.out] at hP
        have HP := Lib.hid hP
        clear hP hRr h1 h2 h3 h4 e2 hg
        go_wp2_with fail
        refine HP.out.mono ?_; rintro e w2 ⟨rfl, hr2, hu2⟩
        have H2 := Lib.hid hr2; have U2 := Lib.hid hu2
        clear hr2 hu2
        go_wp2
        go_ret
        exact ⟨rfl, H2.out, Upd.after B.out U2.out⟩
end Go.Proofs.Ytmnnmgphiiedgaa
