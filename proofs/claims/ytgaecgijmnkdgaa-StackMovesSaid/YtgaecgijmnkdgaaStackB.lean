/- The landed stack: All, Contains, Put, Take. -/
import Derived.Test.YtgaecgijmnkdgaaStackA
namespace Go.Proofs.Ytgaecgijmnkdgaa
open Go.RowKit StackMath
set_option linter.unusedVariables false
set_option maxRecDepth 100000

/-- The places as ints. -/
def toI (L : List Nat) : List Int := L.map Int.ofNat
theorem toI_len (L : List Nat) : (toI L).length = L.length := List.length_map _
theorem toI_snoc (L : List Nat) (a : Nat) : toI (L ++ [a]) = toI L ++ [(a : Int)] := by simp [toI]
theorem toI_at {L : List Nat} {k a : Nat} (h : L[k]? = some a) : (toI L)[k]? = some (a : Int) := by unfold toI; rw [List.getElem?_map, h]; rfl
theorem mem_toI {L : List Nat} {a : Nat} : (a : Int) ∈ toI L ↔ a ∈ L := by
  unfold toI; rw [List.mem_map]; exact ⟨fun ⟨b, hb, e⟩ => by have : b = a := Int.ofNat_inj.1 e; exact this ▸ hb, fun h => ⟨a, h, rfl⟩⟩
def AllR (w : World) (bm : Nat) (L : List Nat) (l at_ : Value) (wr : World) : Prop :=
  ∃ j, j ≤ L.length ∧ at_ = .int .i64 (topI (L.drop j)) ∧ Vec Elem.ints wr l (toI (L.take j)) ∧ MetAt wr bm (L.take j) ∧ (∀ k, In l k → bm < k) ∧ Below w.heap.size w wr
def lenOf : Value → Nat
  | .slice _ n _ => n
  | _ => 0
theorem infoInt13 : (Try.prog.info? 3).map (fun i => (i.zero, i.size, i.bytes)) = some (some (.int .i64 0), 1, 8) := by kernel_rfl
set_option maxHeartbeats 1000000 in
theorem all_any (w : World) {s o : Nat} {S : SS} (h : SK w s o S) (g : GoodS S) (hm : ManyB S) :
    Calls Try.prog 18 #[.pointer (some ⟨s, o, none⟩)] w fun e w' => ∃ v, e = .returned v ∧ Vec Elem.ints w' v (toI S.L) ∧ (∀ k, In v k → w.heap.size ≤ k) ∧ Below w.heap.size w w' := by
  obtain ⟨W1, hW1, hm1, hb1, hs1⟩ := met_new w
  obtain ⟨bm, hbm⟩ : ∃ z, w.heap.size = z := ⟨_, rfl⟩
  have h1 := h.grew hb1
  have c0 := h1.cc.c0; have c1 := h1.cc.c1; have c2 := h1.cc.c2
  obtain ⟨L, hL⟩ : ∃ z, S.L = z := ⟨_, rfl⟩
  rw [hL] at c0 ⊢
  obtain ⟨x, hx⟩ : ∃ z, topW L = z := ⟨_, rfl⟩
  rw [hx] at c0
  have M1 := Lib.hid hm1; have B1 := Lib.hid hb1; have H := Lib.hid h; have G := Lib.hid g; have HL := Lib.hid hL; have HX := Lib.hid hx
  obtain ⟨t, ht⟩ : ∃ z, S.t = z := ⟨_, rfl⟩
  obtain ⟨n, hn⟩ : ∃ z, S.n = z := ⟨_, rfl⟩
  rw [ht] at c1
  rw [hn] at c2
  rw [hbm] at hs1 hm1
  have hk := Blk.new W1 26 #[.int .u64 (x : Int), .int .u64 (t : Int), .int .i64 (n : Int)]
  rw [hs1] at hk
  have hb2 : Below w.heap.size w (W1.alloc (.cells #[.int .u64 (x : Int), .int .u64 (t : Int), .int .i64 (n : Int)] 26)) := hb1.alloc (by rw [hbm, hs1]; omega) _
  have hs2 : (W1.alloc (.cells #[.int .u64 (x : Int), .int .u64 (t : Int), .int .i64 (n : Int)] 26)).heap.size = bm + 2 := by rw [World.size_alloc, hs1]
  have LD := Lib.hid (cell_load (W1.alloc (.cells #[.int .u64 (x : Int), .int .u64 (t : Int), .int .i64 (n : Int)] 26)) (b := bm + 1) (o := 0) (n := (n : Int)) ⟨_, _, hk, rfl, rfl, rfl⟩ (by rw [← hn]; exact hm.ask))
  have hme2 := hm1.upd ((Upd.refl (fun _ => False) W1).alloc (.cells #[.int .u64 (x : Int), .int .u64 (t : Int), .int .i64 (n : Int)] 26)) id
  have M2 := Lib.hid (And.intro hme2 (And.intro hb2 hs2))
  have hx64 : x ≤ 64 := by rw [← HX.out, ← HL.out]; exact topW_le g.lt
  have P0 := Lib.hid (fun w' => placeOf_any w' hx64)
  have e0 : ((x : Int) - 1) = topI L := by rw [← HX.out, topI_word]
  rw [e0] at P0
  clear h g hm hL hx hm1 hb1 h1 hk hb2 hs2 hme2 ht hn hx64 e0 M1 B1
  go_enter Try.func18, Try.ntmps18
  go_wp2_with fail
  refine LD.out.mono ?_; rintro e w3 ⟨rfl, _, hu⟩
  have hm3 := M2.out.1.upd hu.upd (by rintro (k | ⟨i, k⟩); exact k; have := k.1; omega)
  have hb3 : Below w.heap.size w w3 := M2.out.2.1.trans (hu.below (fun _ h => h.elim) (fun c i hc => by rw [hc.1, hbm]; omega) (by rw [hbm, M2.out.2.2]; omega))
  have hs3 : bm + 2 ≤ w3.heap.size := by have := hu.upd.size; rw [M2.out.2.2] at this; exact this
  have I0 := Lib.hid (show AllR w bm L (.slice none 0 0) (.int .i64 (topI L)) w3 from ⟨0, Nat.zero_le _, rfl, Vec.nil _, by rw [List.take_zero]; exact hm3, (fun k hk => by cases hk), hb3⟩)
  clear hu hm3 hb3 hs3 LD M2
  go_wp2_with fail
  refine (P0.out _).mono ?_; rintro e w4 ⟨rfl, rfl⟩
  clear P0 hs1 c0 c1 c2 hW1
  obtain ⟨len, hlen⟩ : ∃ z, L.length = z := ⟨_, rfl⟩
  have HLEN := Lib.hid hlen
  have hl64 : len ≤ 64 := by rw [← hlen, ← HL.out]; exact G.out.len
  have hw0 : Hid (∀ wr, Below w.heap.size w wr → SK wr s o S) := Lib.hid fun wr hb => H.out.upd (updFalse_of hb) id
  clear hlen
  go_wp2
  go_loopw [3, 8] (fun l i wr => AllR w bm L l i wr) (fun l i _ => len - lenOf l)
  case atStart => exact I0.out
  case round =>
    clear I0
    obtain ⟨j, hj, rfl, hv, hmt, hin, hb⟩ := hrel
    rw [HLEN.out] at hj
    obtain ⟨a1, cap1, rfl, hc1, hc2⟩ := hv.slice'
    have hlj : (toI (L.take j)).length = j := by rw [toI_len, List.length_take, HLEN.out]; omega
    rw [hlj] at hv hc1 hin ⊢
    have HV := Lib.hid hv; have MT := Lib.hid hmt; have HI := Lib.hid hin; have B := Lib.hid hb
    have hsk := hw0.out wr hb
    have sr := hb.size
    have hbmw : bm < wr.heap.size := hmt.lt
    clear hv hin hb
    by_cases hjl : j < len
    · obtain ⟨p, hp⟩ : ∃ p, L[j]? = some p := ⟨L[j]'(by rw [HLEN.out]; exact hjl), List.getElem?_eq_getElem _⟩
      have hd : L.drop j = p :: L.drop (j + 1) := by
        obtain ⟨hlt, e⟩ := List.getElem?_eq_some_iff.1 hp
        rw [List.drop_eq_getElem_cons hlt, e]
      have hpm : p ∈ L := List.mem_of_getElem? hp
      have hp64 : p < 64 := G.out.lt p (by rw [HL.out]; exact hpm)
      have hnew : decide (p ∈ L.take j) = false := by
        have nd := G.out.nd
        rw [HL.out, ← List.take_append_drop j L, List.nodup_append] at nd
        exact decide_eq_false fun hm => nd.2.2 p hm p (by rw [hd]; exact List.mem_cons_self ..) rfl
      have m0 := hmt.cell hp64 hnew
      have mf := hmt.frozen p
      have ht1 : L.take (j + 1) = L.take j ++ [p] := by rw [List.take_add_one, hp]; rfl
      have hB : S.B p = topW (L.drop (j + 1)) := by have := G.out.ch j p (by rw [HL.out]; exact hp); rw [HL.out] at this; exact this
      obtain ⟨ni, hni⟩ : ∃ z, topI (L.drop (j + 1)) = z := ⟨_, rfl⟩
      have hnv : ((S.B p : Nat) : Int) - 1 = ni := by rw [hB, ← topI_word, hni]
      have P1 := Lib.hid (fun w' => isPlace_yes w' hp64)
      have P2 := fun w' => placeOf_any w' (G.out.bb p)
      rw [hnv] at P2
      have P3 := Lib.hid P2; have NI := Lib.hid hni; have HT := Lib.hid ht1
      have e1 : topI (L.drop j) = (p : Int) := by rw [hd]; rfl
      rw [e1]
      have M2 := Lib.hid (hmt.put hp64 (L' := L.take (j + 1)) (fun x => by rw [ht1, List.mem_append, List.mem_singleton]; exact or_comm))
      have hsk2 : SK (wr.setCell ⟨bm, p, none⟩ (.bool true)) s o S := hsk.upd ((Upd.refl (fun k => k = bm) wr).setCell (.inl rfl) _) (fun e => by have := H.out.lt; rw [hbm, ← e] at this; omega)
      clear hmt hd hpm hnew ht1 hB hni e1 hp hnv P2
      obtain ⟨i0, hi, hz0, hz1, hz2⟩ := info_parts infoInt13
      obtain ⟨W5, hW5⟩ : ∃ z, wr.setCell ⟨bm, p, none⟩ (.bool true) = z := ⟨_, rfl⟩
      rw [hW5] at M2 hsk2
      have q1 : (0 : Int) ≤ (p : Int) := by omega
      have q2 : (p : Int) < 64 := by omega
      have B5 := Lib.hid (show Below w.heap.size w W5 by rw [← hW5]; exact B.out.trans (((Upd.refl (fun k => k = bm) wr).setCell (p := ⟨bm, p, none⟩) (.inl rfl) _).below (fun k e => by rw [e, hbm]; exact Nat.le_refl _) sr))
      have V5 := Lib.hid (show Vec Elem.ints W5 (.slice a1 j cap1) (toI (L.take j)) by rw [← hW5]; exact HV.out.upd ((Upd.refl (fun k => k = bm) wr).setCell (p := ⟨bm, p, none⟩) (.inl rfl) _) (fun k hk e => by have := HI.out k hk; omega))
      have S5 := Lib.hid (show W5.heap.size = wr.heap.size by rw [← hW5]; exact World.size_setCell _ _ _)
      have N1 := Lib.hid (Seq.new (E := Elem.ints) W5 3 [(p : Int)] 1)
      have SK5 := Lib.hid hsk2
      clear hsk hsk2
      go_wp2_with fail
      refine (P1.out _).mono ?_; rintro e w6 ⟨rfl, rfl⟩
      go_wp2_with (first
        | (at_builtin; refine wpList_append_vec (E := Elem.ints) rfl (.tmp 38) (.tmp 40) 47 rfl 3 i0 (.int .i64 0) 8 Try.underlying47 hi hz0 hz1 hz2 rfl (.slice a1 j cap1) (.slice (some ⟨W5.heap.size, 0, none⟩) 1 1) (toI (L.take j)) [(p : Int)] rfl rfl (V5.out.alloc _) N1.out ?_ ?_ ?_; (simp only [maxLen, List.length_cons, List.length_nil]; omega); (simp only [List.length_cons, List.length_nil]; omega); intro v' w1 hv1 hu1 hin1; have V1 := Lib.hid hv1; have U1 := Lib.hid hu1; have I1 := Lib.hid hin1; have m5 := ((SK5.out.upd ((Upd.refl (fun _ => False) W5).alloc _) id).upd hu1 (fun k => by have := HI.out s k; have := H.out.lt; omega)).cell hp64; clear hv1 hu1 hin1)
        | fail)
      refine (P3.out _).mono ?_; rintro e w7 ⟨rfl, rfl⟩
      go_wp2
      have ev : (toI (L.take j) ++ [(p : Int)]) = toI (L.take (j + 1)) := by rw [HT.out, toI_snoc]
      rw [ev] at V1
      obtain ⟨a8, c8, rfl, _, _⟩ := V1.out.slice'
      have el : (toI (L.take (j + 1))).length = j + 1 := by rw [toI_len, List.length_take, HLEN.out]; omega
      have s5 := S5.out
      have hbi : ∀ k, In (.slice a8 (toI (L.take (j + 1))).length c8) k → bm < k := fun k hk => by
        rcases I1.out k hk with x | x
        · exact HI.out k x
        · simp only [World.size_alloc] at x; omega
      have hb8 : Below w.heap.size w w7 := (B5.out.alloc (by rw [s5]; exact sr) _).trans (U1.out.below (fun k hk => by rw [hbm]; exact Nat.le_of_lt (HI.out k hk)) (by rw [World.size_alloc, s5]; omega))
      have hm8 : MetAt w7 bm (L.take (j + 1)) := (M2.out.upd ((Upd.refl (fun _ => False) W5).alloc _) id).upd U1.out (fun k => by have := HI.out bm k; omega)
      have HR := Lib.hid (show AllR w bm L (.slice a8 (toI (L.take (j + 1))).length c8) (.int .i64 ni) w7 from ⟨j + 1, by rw [HLEN.out]; omega, by rw [NI.out], V1.out, hm8, hbi, hb8⟩)
      rw [el] at HR ⊢
      clear ev el hbi hb8 hm8
      go_roundw
      case rel => exact HR.out
      case measure => simp [lenOf]; omega
    · obtain rfl : j = len := by omega
      have e1 : topI (L.drop j) = -1 := by rw [← HLEN.out, List.drop_length]; rfl
      rw [e1]
      have PN := Lib.hid (fun w' => isPlace_no w' (i := -1) (.inl (by decide)))
      have EL := Lib.hid (show L.take j = L by rw [← HLEN.out, List.take_length])
      clear hmt hsk e1
      go_wp2_with fail
      refine (PN.out _).mono ?_; rintro e w6 ⟨rfl, rfl⟩
      go_wp2
      go_ret
      refine ⟨_, rfl, ?_, fun k hk => by have := HI.out k hk; omega, B.out⟩
      have := HV.out
      rw [EL.out] at this
      exact this
end Go.Proofs.Ytgaecgijmnkdgaa
