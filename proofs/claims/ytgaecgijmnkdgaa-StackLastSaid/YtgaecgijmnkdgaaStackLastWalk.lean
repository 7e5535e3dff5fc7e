/- The law StackLast, walked (written by gen13.py). -/
import Derived.Test.YtgaecgijmnkdgaaAlive13
import Derived.Test.YtgaecgijmnkdgaaBytesIn
import Derived.Test.YtgaecgijmnkdgaaSame11
import Derived.Test.YtgaecgijmnkdgaaAt13
namespace Go.Proofs.Ytgaecgijmnkdgaa.stackLast
open Go.RowKit StackMath
set_option linter.unusedVariables false

def LastR (w : World) (s n : Nat) (v i : Value) (wr : World) : Prop :=
  ∃ (j : Nat) (S : SS), j ≤ n ∧ i = .int .i64 (j : Int) ∧ FS w s S [] wr ∧ S.n ≤ 2 * j ∧ Vec Elem.ints wr v (toI S.L) ∧ (∀ k, In v k → w.heap.size ≤ k ∧ k ≠ s)
def PopR (w : World) (s : Nat) (L0 : List Nat) (n : Nat) (w3 : World) (i : Value) (wr : World) : Prop :=
  ∃ (j : Nat) (S : SS), j ≤ n ∧ i = .int .i64 (j : Int) ∧ FS w s S [] wr ∧ S.n ≤ 500 + 2 * j ∧ S.L = L0.drop j ∧ Upd (fun k => k = s) w3 wr
theorem StW.seq {w w' : World} {m s : Nat} {v : Value} {l : List Int} (h : Vec Elem.ints w v l) (u : StW m s 0 w w') (hn : ∀ k, In v k → k ≠ m ∧ k ≠ s) : Vec Elem.ints w' v l :=
  h.upd u.upd (fun k hk => by rintro (e | ⟨i, e⟩); exact (hn k hk).1 e; exact (hn k hk).2 e.1)
set_option maxRecDepth 100000 in
set_option maxHeartbeats 4000000 in
theorem walk_short (w : World) {a : Option Addr} {n cap : Nat} (L : List Nat) (hB : BytesIn w a n L) (hl : n ≤ 64) :
    Calls Try.prog 6 #[.slice a n cap] w fun e w' => e = .returned (.bool true) ∧ Below w.heap.size w w' := by
  have HB := Lib.hid hB
  have t0 : decide ((64 : Int) < (n : Int)) = false := decide_eq_false (by omega)
  have ZS := zero_stack
  obtain ⟨i0, hi, hz0, hz1, hz2⟩ := info_parts infoInt13
  clear hB
  go_enter Try.func6, Try.ntmps6
  go_wp2_with fail
  refine (alive_any w).mono ?_; rintro e w1 ⟨rfl, hb⟩
  obtain ⟨W, hW, hf, hb2, hs2⟩ := fs_new (w := w) hb
  obtain ⟨s, hss⟩ : ∃ z, w1.heap.size = z := ⟨_, rfl⟩
  rw [hss] at hf
  have I0 := Lib.hid (show LastR w s n (.slice none 0 0) (.int .i64 0) W from ⟨0, s0, Nat.zero_le _, rfl, hf, by decide, Vec.nil _, fun k hk => by cases hk⟩)
  clear hf hb2 hs2 hb
  go_wp2
  go_loopw [4, 20] (fun v i wr => LastR w s n v i wr) (fun v i _ => n - (intOf i).toNat)
  case atStart => exact I0.out
  case round =>
    clear I0 hW
    obtain ⟨j, S, hj, rfl, hf, hn, hv, hvn⟩ := hrel
    obtain ⟨a1, c1, rfl, hc1, hc2⟩ := hv.slice'
    rw [toI_len] at hv hc1 hvn ⊢
    have hsl64 := hf.g.len
    obtain ⟨sl, hsl⟩ : ∃ z, S.L.length = z := ⟨_, rfl⟩
    rw [hsl] at hv hc1 hvn hsl64 ⊢
    have HSL := Lib.hid hsl
    clear hsl
    by_cases hjn : j < n
    · obtain ⟨b2, off2, ea, c0⟩ := HB.out.cell wr hf.below j hjn
      have hx8 := HB.out.le j hjn
      obtain ⟨x, hx⟩ : ∃ x, L.getD j 0 = x := ⟨_, rfl⟩
      rw [hx] at c0 hx8
      subst ea
      obtain ⟨p, hp⟩ : ∃ p, x % 64 = p := ⟨_, rfl⟩
      obtain ⟨em1, em2⟩ := mod_of hp
      have em1 : Int.tmod (x : Int) 64 = (p : Int) := em1
      have em2 : (x : Int) % 64 = (p : Int) := em2
      have hp64 : p < 64 := by omega
      have q2 : decide ((j : Int) < (n : Int)) = true := decide_eq_true (by omega)
      have q2' : decide (j < n) = true := decide_eq_true hjn
      have q3 : (0 : Int) ≤ (j : Int) := by omega
      have q4 : (j : Int) < (n : Int) := by omega
      have P := Lib.hid (fs_push hf hp64)
      have V := Lib.hid hv; have VN := Lib.hid hvn
      have HM := Lib.hid (show S.n ≤ 1000000 by omega)
      have SLen := Lib.hid hf.g.len
      have HN := Lib.hid hn
      have E := Lib.hid (push_ends S p)
      have vlt : ∀ k, In (.slice a1 sl c1) k → k < wr.heap.size := fun k hk => hv.lt hk
      have VL := Lib.hid vlt
      clear hf hv hvn hn hp vlt
      go_wp2_with fail
      refine P.out.mono ?_; rintro e w5 ⟨m, rfl, hf, hmlo, hbl⟩
      have SI := Lib.hid (so_zero hf 2)
      have V5 := Lib.hid (show Vec Elem.ints w5 (.slice a1 sl c1) (toI S.L) from V.out.upd (updFalse_of hbl) (fun _ _ => id))
      have ML := Lib.hid hmlo
      have xx : w5.heap.size = w5.heap.size := rfl
      clear hf hbl P xx
      go_wp2
      go_loopg [] 2 (fun g wr => SoR w s S [] m (mPush p) w5 2 g wr)
      case atStart => exact SI.out
      case round =>
        clear SI
        obtain ⟨jj, hjj, ha, hw⟩ := hrel
        by_cases hjn : jj < 2
        · have C := Lib.hid (so_next E.out HM.out (by decide) ha hw hjn)
          clear ha hw
          go_wp2_with fail
          refine C.out.mono ?_; rintro e w7 ⟨rfl, hr⟩
          have NX := Lib.hid hr
          clear hr C
          go_wp2
          go_roundg (2 - 1 - jj)
          case measure => omega
          case rel => exact NX.out
        · have C := Lib.hid (so_stop E.out HM.out (by decide) ha hw (by omega : jj = 2))
          clear ha hw
          go_wp2_with fail
          refine C.out.mono ?_; rintro e w8 ⟨rfl, hf, hst⟩
          have h8 : FS w s (pushS S p) [] w8 := by have := hf.forget; rw [(push_two S p).2.2.1] at this; exact this
          have V8 := Lib.hid (StW.seq V5.out hst (fun k hk => ⟨fun e => by have := VL.out k hk; have := ML.out; omega, (VN.out k hk).2⟩))
          have F8 := Lib.hid h8
          have bw : Below w.heap.size w w8 := h8.below
          clear hf hst C h8 V5 V
          have AT := Lib.hid (at13_any w8 V8.out.seq (x := (p : Int)) (by omega) (by omega))
          go_wp2_with fail
          refine AT.out.mono ?_; rintro e w9 ⟨k, rfl, hk, hk2⟩; obtain rfl := hk2.symm; clear hk2 AT
          by_cases hin : p ∈ S.L
          · have tk : decide (k < 0) = false := by rw [hk]; exact decide_eq_false (fun h => h (mem_toI.2 hin))
            have eS : toI (pushS S p).L = toI S.L := by unfold pushS; rw [if_pos hin]
            have NX := Lib.hid (show LastR w s n (.slice a1 sl c1) (.int .i64 ((j + 1 : Nat) : Int)) w8 from ⟨j + 1, pushS S p, by omega, rfl, F8.out, by have := (pushS_n S p).2; have := HN.out; omega, by rw [eS]; exact V8.out, VN.out⟩)
            rw [show ((j + 1 : Nat) : Int) = (j : Int) + 1 by omega] at NX
            clear hk hin eS
            go_wp2
            go_roundw
            case rel => exact NX.out
            case measure => simp [intOf]; omega
          · have tk : decide (k < 0) = true := by rw [hk]; exact decide_eq_true (fun h => hin (mem_toI.1 h))
            have eS : toI (pushS S p).L = [(p : Int)] ++ toI S.L := by unfold pushS; rw [if_neg hin]; simp [toI]
            have ES := Lib.hid eS
            have N1 := Lib.hid (Vec.one13 w8 3 (p : Int))
            have fs8 := F8.out.fs
            have fl8 := F8.out.lt
            clear hk hin eS
            go_wp2_with (at_builtin; refine wpList_append_vec (E := Elem.ints) rfl (.tmp 42) (.tmp 43) 47 rfl 3 i0 (.int .i64 0) 8 Try.underlying47 hi hz0 hz1 hz2 rfl (.slice (some ⟨w8.heap.size, 0, none⟩) 1 1) (.slice a1 sl c1) [(p : Int)] (toI S.L) rfl rfl N1.out (V8.out.seq.alloc _) ?_ ?_ ?_; (rw [toI_len, HSL.out]; simp only [maxLen, List.length_cons, List.length_nil]; omega); (rw [toI_len, HSL.out]; simp only [List.length_cons, List.length_nil]; omega); intro v' w9 hv1 hu1 hin1; have V1 := Lib.hid hv1; have U1 := Lib.hid hu1; have I1 := Lib.hid hin1; clear hv1 hu1 hin1)
            have f9 : FS w s (pushS S p) [] w9 := (F8.out.alloc (.cells #[.int .i64 (p : Int)] 3)).upd U1.out (fun k hk => by
              have e := in_blk hk
              exact ⟨by have := F8.out.below.size; omega, by omega, fun x hx => by cases hx⟩)
            have NX := Lib.hid (show LastR w s n v' (.int .i64 ((j + 1 : Nat) : Int)) w9 from ⟨j + 1, pushS S p, by omega, rfl, f9, by have := (pushS_n S p).2; have := HN.out; omega, by rw [ES.out]; exact V1.out, fun k hk => by
              rcases I1.out k hk with h | h
              · have e := in_blk h; have := F8.out.below.size; exact ⟨by omega, by omega⟩
              · rw [World.size_alloc] at h; have := F8.out.below.size; exact ⟨by omega, by omega⟩⟩)
            rw [show ((j + 1 : Nat) : Int) = (j : Int) + 1 by omega] at NX
            clear f9
            go_roundw
            case rel => exact NX.out
            case measure => simp [intOf]; omega
    · obtain rfl : j = n := by omega
      have q2 : decide ((j : Int) < (j : Int)) = false := decide_eq_false (by omega)
      have A := Lib.hid (fs_all hf (show ManyB S by show S.n ≤ _; omega))
      have V := Lib.hid hv
      have HN := Lib.hid (show S.n ≤ 500 by omega)
      have VN := Lib.hid hvn
      clear hf hv hvn hn hj ZS
      go_wp2_with fail
      refine A.out.mono ?_; rintro e w3 ⟨a2, c2, rfl, hq, hf, _, hbl⟩
      rw [HSL.out] at hq ⊢
      have V3 := Lib.hid (show Seq Elem.ints w3 (.slice a1 sl c1) (toI S.L) from (V.out.upd (updFalse_of hbl) (fun _ _ => id)).seq)
      have SM := Lib.hid (same11_any w3 hq V3.out (by omega) (by omega))
      rw [decide_eq_true rfl] at SM
      have F3 := Lib.hid hf
      clear hq hf hbl A V
      go_wp2_with fail
      refine SM.out.mono ?_; rintro e w4 ⟨rfl, hbl⟩
      have f4 := F3.out.grew hbl
      have I4 := Lib.hid (show PopR w s S.L sl w3 (.int .i64 0) w4 from ⟨0, S, Nat.zero_le _, rfl, f4, HN.out, rfl, (updFalse_of hbl).mono fun _ h => h.elim⟩)
      have in3 : ∀ k, In (.slice a1 sl c1) k → k ≠ s := fun k hk => (VN.out k hk).2
      have IN3 := Lib.hid in3
      clear f4 hbl SM in3
      go_wp2
      go_loopw [52] (fun i wr => PopR w s S.L sl w3 i wr) (fun i _ => sl - (intOf i).toNat)
      case atStart => exact I4.out
      case round =>
        clear I4
        obtain ⟨t, T, ht, rfl, hf, hn, hT, hu⟩ := hrel
        by_cases htn : t < sl
        · have V4 := V3.out.upd hu (fun k hk => IN3.out k hk)
          obtain ⟨b3, off3, y, ea, hy, _, d0⟩ := Vec.at13 V4 (t := t) (by rw [toI_len, HSL.out]; exact htn)
          subst ea
          obtain ⟨q, hq⟩ : ∃ q, S.L[t]? = some q := ⟨S.L[t]'(by rw [HSL.out]; exact htn), List.getElem?_eq_getElem _⟩
          have hyq : y = (q : Int) := by rw [toI_at hq] at hy; injection hy with hy; exact hy.symm
          subst hyq
          have hd : T.L = q :: S.L.drop (t + 1) := by
            obtain ⟨hlt, e⟩ := List.getElem?_eq_some_iff.1 hq
            rw [hT, List.drop_eq_getElem_cons hlt, e]
          have q2 : decide ((t : Int) < (sl : Int)) = true := decide_eq_true (by omega)
          have q2' : decide (t < sl) = true := decide_eq_true htn
          have q3 : (0 : Int) ≤ (t : Int) := by omega
          have q4 : (t : Int) < (sl : Int) := by omega
          have P := Lib.hid (fs_pop hf)
          have HM := Lib.hid (show T.n ≤ 1000000 by omega)
          have HN2 := Lib.hid hn
          have E := Lib.hid (pop_ends hd)
          have HD := Lib.hid hd
          have HU := Lib.hid hu
          have PT := Lib.hid (pop_two hd).2.2
          clear hf hn hT hu hd hy hq V4
          go_wp2_with fail
          refine P.out.mono ?_; rintro e w5 ⟨m, rfl, hf, hmlo, hbl⟩
          have SI := Lib.hid (so_zero hf 2)
          have U5 := Lib.hid (HU.out.trans ((updFalse_of hbl).mono fun _ h => h.elim))
          have ML := Lib.hid (show w3.heap.size ≤ m from Nat.le_trans HU.out.size hmlo)
          clear hf hbl P hmlo
          go_wp2
          go_loopg [] 2 (fun g wr => SoR w s T [] m mPop w5 2 g wr)
          case atStart => exact SI.out
          case round =>
            clear SI
            obtain ⟨jj, hjj, ha, hw⟩ := hrel
            by_cases hjn : jj < 2
            · have C := Lib.hid (so_next E.out HM.out (by decide) ha hw hjn)
              clear ha hw
              go_wp2_with fail
              refine C.out.mono ?_; rintro e w7 ⟨rfl, hr⟩
              have NX := Lib.hid hr
              clear hr C
              go_wp2
              go_roundg (2 - 1 - jj)
              case measure => omega
              case rel => exact NX.out
            · have C := Lib.hid (so_stop E.out HM.out (by decide) ha hw (by omega : jj = 2))
              clear ha hw
              go_wp2_with fail
              refine C.out.mono ?_; rintro e w8 ⟨rfl, hf, hst⟩
              have PL := Lib.hid (fs_place hf (i := 0) rfl)
              have ep : placeE (aloneE T mPop 2).2 = (q : Int) := PT.out.2.2
              rw [ep] at PL
              have h8 : FS w s (popS T) [] w8 := by have := hf.forget; rw [PT.out.1] at this; exact this
              have u8 : Upd (fun k => k = s) w3 w8 := U5.out.step hst.upd (fun i hi => by
                rcases hi with e | ⟨c, e⟩
                · exact .inr (by rw [e]; exact ML.out)
                · exact .inl e.1)
              have hp8 : (popS T).L = S.L.drop (t + 1) := by unfold popS; rw [HD.out]; rfl
              have NX := Lib.hid (show PopR w s S.L sl w3 (.int .i64 ((t + 1 : Nat) : Int)) w8 from ⟨t + 1, popS T, by omega, rfl, h8, by have := (popS_n T).2; have := HN2.out; omega, hp8, u8⟩)
              rw [show ((t + 1 : Nat) : Int) = (t : Int) + 1 by omega] at NX
              have tq : ((q : Int) != (q : Int)) = false := by simp
              clear hf hst C h8 u8 ep hp8
              go_wp2_with fail
              refine PL.out.mono ?_; rintro e w9 ⟨rfl, k⟩; obtain rfl := k.symm; clear k
              go_wp2
              go_roundw
              case rel => exact NX.out
              case measure => simp [intOf]; omega
        · obtain rfl : t = sl := by omega
          have q2 : decide ((t : Int) < (t : Int)) = false := decide_eq_false (by omega)
          have hT0 : T.L.length = 0 := by rw [hT, ← HSL.out, List.drop_length]; rfl
          have A := Lib.hid (fs_all hf (show ManyB T by show T.n ≤ _; omega))
          rw [hT0] at A
          clear hf hn hT hu hT0
          go_wp2_with fail
          refine A.out.mono ?_; rintro e w5 ⟨a5, c5, rfl, _, hf, _, _⟩
          have F5 := Lib.hid hf
          clear hf
          go_wp2
          go_ret
          exact ⟨rfl, F5.out.below⟩
theorem walk (w : World) {a : Option Addr} {n cap : Nat} (l : List Int) (h : NumsAt w .u8 (.slice a n cap) l) :
    Calls Try.prog 6 #[.slice a n cap] w fun e w' => e = .returned (.bool true) ∧ Below w.heap.size w w' := by
  obtain ⟨L, hB⟩ := h.bytesIn
  by_cases hl : n ≤ 64
  · exact walk_short w L hB hl
  · have t0 : decide ((64 : Int) < (n : Int)) = true := decide_eq_true (by omega)
    have hm := hB.max
    clear hB h hl
    go_enter Try.func6, Try.ntmps6
    go_wp2_with fail
    refine (alive_any w).mono ?_; rintro e w1 ⟨rfl, hb⟩
    have B1 := Lib.hid hb
    clear hb
    go_wp2
    go_ret
    exact ⟨rfl, B1.out⟩
end Go.Proofs.Ytgaecgijmnkdgaa.stackLast
