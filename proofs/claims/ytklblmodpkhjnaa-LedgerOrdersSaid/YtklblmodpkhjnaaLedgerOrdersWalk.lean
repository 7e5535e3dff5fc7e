/- LedgerOrders: the walk. (Written by genorders15.py.) -/
import Derived.Test.YtklblmodpkhjnaaLedMath5
import Derived.Test.YtklblmodpkhjnaaSame15
import Derived.Test.YtklblmodpkhjnaaLedG
namespace Go.Proofs.Ytklblmodpkhjnaa.ledgerOrders
open Go.RowKit LedMath
set_option linter.unusedVariables false

/-- A law's second ledger: what is done with the first one leaves it. -/
theorem ol_other {w0 w w' : World} {lb : Nat} {T S : Nat → Prop} {L : List En} (h : OL w0 lb T L w) (u : Upd S w w') (hS : ∀ k, S k → w0.heap.size ≤ k) (hd : ∀ k, k < w.heap.size → T k → ¬ S k) : OL w0 lb T L w' :=
  ⟨(((h.led.mono (T := fun k => T k ∧ k < w.heap.size) fun k hk ht => ⟨ht, hk⟩).upd u fun k hk => hd k hk.2 hk.1).mono fun k _ hk => hk.1), h.below.trans (u.below hS h.below.size), h.hi⟩
theorem u8s_of {w : World} {a : Option Addr} {n cap : Nat} {l : List Int} (h : NumsAt w .u8 (.slice a n cap) l) : ∃ L : List Nat, n = L.length ∧ n ≤ cap ∧ cap ≤ 9223372036854775807 ∧ (∀ x ∈ L, x ≤ 255) ∧ ∀ (j x : Nat), L[j]? = some x → ∃ b off, a = some ⟨b, off, none⟩ ∧ ∀ w', Below w.heap.size w w' → w'.cell? ⟨b, off + j, none⟩ = some (.int .u8 (x : Int)) := by
  obtain ⟨a', cap', e, h1, h2, h3, h4, h5⟩ := h
  injection e with e1 e2 e3
  subst e1 e2 e3
  refine ⟨l.map Int.toNat, by simp, h1, h2, fun x hx => ?_, fun j x hj => ?_⟩
  · obtain ⟨y, hy, rfl⟩ := List.mem_map.1 hx
    have := u8_bd (h5 y hy)
    omega
  · rw [List.getElem?_map] at hj
    obtain ⟨y, hy, rfl⟩ := Option.map_eq_some_iff.1 hj
    have hjl := (List.getElem?_eq_some_iff.1 hy).1
    obtain ⟨b, off, ea, hc⟩ := h4 j hjl
    have hb := u8_bd (h5 y (List.mem_of_getElem? hy))
    have e2 : l.getD j 0 = y := by rw [List.getD_eq_getElem?_getD, hy]; rfl
    rw [e2] at hc
    refine ⟨b, off, ea, fun w' hbl => ?_⟩
    rw [show ((y.toNat : Nat) : Int) = y by omega]
    exact cell_later hc (Nat.le_refl _) hbl
theorem add_round {w1 ws wr : World} {lb : Nat} {T : Nat → Prop} {M : List En} (o : OL w1 lb T M wr) (u : Upd T ws wr) (hn : ∀ q, ws.heap.size ≤ q → T q) {x y z : Nat} (hx : U64B x) (hy : U64B y) (hz : U64B z) (ob : Obj) :
    Calls Try.prog 22 #[ptrV lb 0, blkV x y z] (wr.alloc ob) fun r w' => r = .returned (.int .i64 ((addE M x y z).1 : Int)) ∧ OL w1 lb T (addE M x y z).2 w' ∧ Upd T ws w' := by
  have hb := (Below.refl wr.heap.size wr).alloc (Nat.le_refl _) ob
  have o2 := o.grew hb
  have u2 : Upd T ws (wr.alloc ob) := u.trans ((updFalse_of hb).mono fun _ h => h.elim)
  refine (Add_any (wr.alloc ob) o2.led hx hy hz).mono fun r w' k => ⟨k.1, (o2.next k.2.1 k.2.2).mono (fun q _ hq => hq.elim id fun h' => hn q (Nat.le_trans u2.size h')) o.hi, u2.trans k.2.2⟩
theorem drop_round {w1 ws wr : World} {lb : Nat} {T : Nat → Prop} {M : List En} (o : OL w1 lb T M wr) (u : Upd T ws wr) (hn : ∀ q, ws.heap.size ≤ q → T q) (x : Nat) (ob : Obj) :
    Calls Try.prog 23 #[ptrV lb 0, .slice (some ⟨wr.heap.size + 1, 0, none⟩) 1 1] ((wr.alloc ob).alloc (.cells #[.int .u64 (x : Int)] 33)) fun r w' => r = .returned (.int .i64 ((drop1 M x).1 : Int)) ∧ OL w1 lb T (drop1 M x).2 w' ∧ Upd T ws w' := by
  have hb := (Below.refl wr.heap.size wr).alloc (Nat.le_refl _) ob
  have o2 := o.grew hb
  have u2 : Upd T ws (wr.alloc ob) := u.trans ((updFalse_of hb).mono fun _ h => h.elim)
  refine (drop_one o2.led x (wr.heap.size + 1) (by simp)).mono fun r w' k => ⟨k.1, (o2.next k.2.1 k.2.2).mono (fun q _ hq => hq.elim id fun h' => hn q (Nat.le_trans u2.size h')) o.hi, u2.trans k.2.2⟩
def BuildR (w1 : World) (B : Nat) (L : List Nat) (E : List En) (v p i : Value) (wr : World) : Prop :=
  ∃ j : Nat, j ≤ L.length ∧ i = .int .i64 (j : Int) ∧ p = .int .u64 ((posN 16 L j : Nat) : Int) ∧ Vec Elem.blks wr v ((E.take j).map En.b) ∧ (∀ k, In v k → B ≤ k) ∧ Below B w1 wr
def AddR (w1 ws : World) (lb : Nat) (T : Nat → Prop) (F : Nat → List En) (n : Nat) (i : Value) (wr : World) : Prop :=
  ∃ j : Nat, j ≤ n ∧ i = .int .i64 (j : Int) ∧ OL w1 lb T (F j) wr ∧ Upd T ws wr
set_option maxRecDepth 100000 in
set_option maxHeartbeats 8000000 in
theorem walk_short (w : World) {a : Option Addr} {n cap : Nat} (l0 : List Int) (h : NumsAt w .u8 (.slice a n cap) l0) (y : Nat) (hy : y ≤ 255) (hn60 : n ≤ 60) :
    Calls Try.prog 8 #[.slice a n cap, .int .u8 (y : Int)] w fun e w' => e = .returned (.bool true) ∧ Below w.heap.size w w' := by
  obtain ⟨i0, hi, hz0, hz1, hz2⟩ := info_parts infoB
  obtain ⟨L, hL, hnc, hc63, h255, hcell⟩ := u8s_of h
  have GE := Lib.hid (ord_good L 16 (by decide) h255 (by omega)).1
  have FE := Lib.hid (ord_free L 16)
  have PL := Lib.hid (fun j => pos_le L 16 j h255)
  have OG := Lib.hid (ord_get L 16)
  have elen : (ordE 16 L).length = n := by rw [ord_len, hL]
  obtain ⟨E, hE⟩ : ∃ E, ordE 16 L = E := ⟨_, rfl⟩
  rw [hE] at GE FE OG elen
  have EL := Lib.hid elen
  have LL := Lib.hid hL
  have HC := Lib.hid hcell
  have H255 := Lib.hid h255
  have AL := Lib.hid (alive_any w)
  have t0 : decide ((60 : Int) < (n : Int)) = false := decide_eq_false (by omega)
  clear h hL h255 hcell hE elen
  go_enter Try.func8, Try.ntmps8
  go_wp2_with fail
  refine AL.out.mono ?_; rintro e w1 ⟨rfl, hb⟩
  have B1 := Lib.hid hb
  clear hb AL
  obtain ⟨wA, hwA⟩ : ∃ wA, w1.alloc (.cells #[.slice none 0 0] 27) = wA := ⟨_, rfl⟩
  obtain ⟨wB, hwB⟩ : ∃ wB, wA.alloc (.cells #[.slice none 0 0] 27) = wB := ⟨_, rfl⟩
  have sA : wA.heap.size = w1.heap.size + 1 := by rw [← hwA]; simp
  have sB : wB.heap.size = w1.heap.size + 2 := by rw [← hwB]; simp; omega
  have bA : Below w1.heap.size w1 wA := by rw [← hwA]; exact (Below.refl _ w1).alloc (Nat.le_refl _) _
  have bB : Below wA.heap.size wA wB := by rw [← hwB]; exact (Below.refl _ wA).alloc (Nat.le_refl _) _
  have oA : OL w1 w1.heap.size (fun k => k = w1.heap.size) [] wB := by
    have := (OL.new w1).mono (T' := fun k => k = w1.heap.size) (fun k hk hk' => by rw [World.size_alloc] at hk; omega) (fun k hk => by omega)
    rw [hwA] at this
    exact this.grew bB
  have oB : OL w1 (w1.heap.size + 1) (fun k => k = w1.heap.size + 1) [] wB := by
    have := (OL.new wA).led
    rw [hwB] at this
    rw [sA] at this
    exact ⟨this.mono fun k hk hk' => by omega, below_then bA bA.size bB, fun k hk => by omega⟩
  have OA := Lib.hid oA; have OB := Lib.hid oB
  have SB := Lib.hid sB
  have BB := Lib.hid (below_then bA bA.size bB)
  have I0 := Lib.hid (show BuildR wB wB.heap.size L E (.slice none 0 0) (.int .u64 16) (.int .i64 0) wB from ⟨0, Nat.zero_le _, rfl, by cases L <;> rfl, Vec.nil wB, fun k hk => (by cases hk), Below.refl _ _⟩)
  have WW : Hid ((w1.alloc (.cells #[.slice none 0 0] 27)).alloc (.cells #[.slice none 0 0] 27) = wB) := Lib.hid (by rw [hwA, hwB])
  clear oA oB bA bB sA sB hwA hwB
  go_wp2
  rw [WW.out]
  go_loopw [7, 8, 26] (fun v p i wr => BuildR wB wB.heap.size L E v p i wr) (fun _ _ i _ => n - (intOf i).toNat)
  case atStart => exact I0.out
  case round =>
    clear I0
    obtain ⟨j, hj, rfl, rfl, hv, hin, hb⟩ := hrel
    rw [← LL.out] at hj
    by_cases hjn : j < n
    · have t2 : decide (j < n) = true := decide_eq_true hjn
      have t2' : decide ((j : Int) < (n : Int)) = true := decide_eq_true (by omega)
      obtain ⟨nj, hnj⟩ : ∃ nj, L[j]? = some nj := ⟨_, List.getElem?_eq_getElem (by rw [← LL.out]; exact hjn)⟩
      obtain ⟨b, off, ea', hcl⟩ := HC.out j nj hnj
      subst ea'
      have c0 := hcl wr (below_then B1.out B1.out.size (below_then BB.out BB.out.size hb))
      have hb255 := H255.out nj (List.mem_of_getElem? hnj)
      obtain ⟨hg, hp⟩ := OG.out j nj hnj
      have hpb := PL.out j
      obtain ⟨p, hp0⟩ : ∃ p, posN 16 L j = p := ⟨_, rfl⟩
      rw [hp0] at hg hp hpb ⊢
      obtain ⟨m, hm⟩ : ∃ m, stepN nj = m := ⟨_, rfl⟩
      obtain ⟨p2, hp2⟩ : ∃ p2, p + m = p2 := ⟨_, rfl⟩
      rw [hm, hp2] at hp
      have NP := Lib.hid hp
      have NX := Lib.hid (show E.take (j + 1) = E.take j ++ [⟨p, nj, 16, false⟩] by rw [List.take_add_one, hg]; rfl)
      have hlen : (E.take j).length + 1 ≤ 61 := by rw [List.length_take]; omega
      obtain ⟨av, cv, ev, _, _⟩ := hv.slice'
      obtain ⟨nv, hnv⟩ : ∃ nv, ((E.take j).map En.b).length = nv := ⟨_, rfl⟩
      rw [hnv] at ev
      subst ev
      have HL := Lib.hid hlen
      have HI := Lib.hid hin
      have VA : Hid (∀ o q, Vec Elem.blks ((wr.alloc o).alloc q) (.slice av nv cv) ((E.take j).map En.b)) := Lib.hid fun o q => (hv.alloc o).alloc q
      have SA : Hid (∀ o g, g = wr.heap.size + 1 → Seq Elem.blks ((wr.alloc o).alloc (.cells #[.int .u64 (p : Int), .int .u64 (nj : Int), .int .u64 16] 35)) (.slice (some ⟨g, 0, none⟩) 1 1) [(p, nj, 16)]) := Lib.hid fun o g hg => blk_one (wr.alloc o) _ ⟨p, nj, 16, false⟩ g (by rw [hg]; simp)
      have BA : Hid (∀ o q, Below wB.heap.size wB ((wr.alloc o).alloc q)) := Lib.hid fun o q => below_alloc2 hb hb.size o q
      have SZ : Hid (∀ o q, wB.heap.size ≤ ((wr.alloc o).alloc q).heap.size) := Lib.hid fun o q => (BA.out o q).size
      have BXX : Hid (∀ q, Blk ((wr.alloc (.cells #[.int .u64 (p : Int), .int .u64 (nj : Int), .int .u64 16] 35)).alloc q) wr.heap.size 35 #[.int .u64 (p : Int), .int .u64 (nj : Int), .int .u64 16]) := Lib.hid fun q => (Blk.new wr 35 #[.int .u64 (p : Int), .int .u64 (nj : Int), .int .u64 16]).alloc q
      have BXN : Hid (¬ In (.slice av nv cv) wr.heap.size) := Lib.hid fun hk => Nat.lt_irrefl _ (hv.lt hk)
      have w8 : IntKind.u64.wrap (nj : Int) = (nj : Int) := u64_in _ ⟨by omega, by omega⟩
      have q3 : (0 : Int) ≤ (j : Int) := by omega
      have q4 : (j : Int) < (n : Int) := by omega
      obtain ⟨d, hd⟩ : ∃ d, (max nj 1 + 15) / 16 = d := ⟨_, rfl⟩
      have hmd : d * 16 = m := by rw [← hm, ← hd]; rfl
      clear hv hin hb hnj hcl hg hp hnv hlen hp0 hm
      have hm := hmd
      clear hmd
      by_cases hn1 : (1 : Int) ≤ (nj : Int)
      · have hdd : (nj + 15) / 16 = d := by rw [← hd, show max nj 1 = nj by omega]
        have d1 : ((nj : Int) + 15) / 16 = (d : Int) := by omega
        have d2 : Int.tdiv ((nj : Int) + 15) 16 = (d : Int) := by rw [← d1]; exact Int.tdiv_eq_ediv_of_nonneg (by omega)
        have d3 : IntKind.u64.wrap ((nj : Int) + 15) = (nj : Int) + 15 := u64_in _ ⟨by omega, by omega⟩
        have d4 : (d : Int) * 16 = (m : Int) := by omega
        have d5 : IntKind.u64.wrap (m : Int) = (m : Int) := u64_in _ ⟨by omega, by omega⟩
        have d6 : (p : Int) + (m : Int) = (p2 : Int) := by omega
        have d7 : IntKind.u64.wrap (p2 : Int) = (p2 : Int) := u64_in _ ⟨by omega, by omega⟩
        clear hm hd hp2 hpb
        go_wp2_with (at_builtin; refine wpList_append_vec (E := Elem.blks) rfl (.tmp 34) (.tmp 36) 29 rfl 35 i0 _ 24 Try.underlying29 hi hz0 hz1 hz2 rfl (.slice av nv cv) _ ((E.take j).map En.b) [(p, nj, 16)] rfl rfl (VA.out _ _) (SA.out _ _ rfl) ?_ ?_ ?_; (have := HL.out; rw [List.length_map]; simp only [maxLen, List.length_cons, List.length_nil]; omega); (have := HL.out; rw [List.length_map]; simp only [List.length_cons, List.length_nil]; omega); intro v4 w4 hv4 hu4 hin4; have V4 := Lib.hid hv4; have U4 := Lib.hid hu4; have IN4 := Lib.hid hin4; clear hv4 hu4 hin4; have B4 := Lib.hid ((BA.out _ _).trans (U4.out.below HI.out (SZ.out _ _))); have bx := ((BXX.out _).upd U4.out (BXN.out)).c3.2.1)
        go_roundw
        case rel => exact ⟨j + 1, by rw [← LL.out]; omega, by go_num, by rw [NP.out], by rw [NX.out, List.map_append]; exact V4.out, fun k hk => (by
          rcases IN4.out k hk with hk | hk
          · exact HI.out k hk
          · exact Nat.le_trans (SZ.out _ _) hk), B4.out⟩
        case measure => simp [intOf] <;> omega
      · have hdd : d = 1 := by rw [← hd, show max nj 1 = 1 by omega]
        have d4 : m = 16 := by omega
        subst d4
        have d6 : (p : Int) + 16 = (p2 : Int) := by omega
        have d7 : IntKind.u64.wrap (p2 : Int) = (p2 : Int) := u64_in _ ⟨by omega, by omega⟩
        clear hm hd hp2 hpb
        go_wp2_with (at_builtin; refine wpList_append_vec (E := Elem.blks) rfl (.tmp 34) (.tmp 36) 29 rfl 35 i0 _ 24 Try.underlying29 hi hz0 hz1 hz2 rfl (.slice av nv cv) _ ((E.take j).map En.b) [(p, nj, 16)] rfl rfl (VA.out _ _) (SA.out _ _ rfl) ?_ ?_ ?_; (have := HL.out; rw [List.length_map]; simp only [maxLen, List.length_cons, List.length_nil]; omega); (have := HL.out; rw [List.length_map]; simp only [List.length_cons, List.length_nil]; omega); intro v4 w4 hv4 hu4 hin4; have V4 := Lib.hid hv4; have U4 := Lib.hid hu4; have IN4 := Lib.hid hin4; clear hv4 hu4 hin4; have B4 := Lib.hid ((BA.out _ _).trans (U4.out.below HI.out (SZ.out _ _))); have bx := ((BXX.out _).upd U4.out (BXN.out)).c3.2.1)
        go_roundw
        case rel => exact ⟨j + 1, by rw [← LL.out]; omega, by go_num, by rw [NP.out], by rw [NX.out, List.map_append]; exact V4.out, fun k hk => (by
          rcases IN4.out k hk with hk | hk
          · exact HI.out k hk
          · exact Nat.le_trans (SZ.out _ _) hk), B4.out⟩
        case measure => simp [intOf] <;> omega
    · obtain rfl : j = n := by omega
      have t2 : decide (j < j) = false := decide_eq_false hjn
      have t2' : decide ((j : Int) < (j : Int)) = false := decide_eq_false (by omega)
      have eE : E.take j = E := List.take_of_length_le (by rw [EL.out]; exact Nat.le_refl _)
      rw [eE] at hv
      obtain ⟨av, cv, ev, hcv1, hcv2⟩ := hv.slice'
      rw [List.length_map, EL.out] at ev hcv1
      subst ev
      obtain ⟨k, hk0⟩ : ∃ k, y % (j + 1) = k := ⟨_, rfl⟩
      have hkj : k ≤ j := by have := Nat.mod_lt y (show 0 < j + 1 by omega); omega
      have e1 : IntKind.i64.wrap ((j : Int) + 1) = (j : Int) + 1 := IntWalk.i64_in _ ⟨by omega, by omega⟩
      have e2 : (y : Int) % ((j : Int) + 1) = (k : Int) := by rw [← hk0]; exact (Int.natCast_emod y (j + 1)).symm
      have e3 : Int.tmod (y : Int) ((j : Int) + 1) = (k : Int) := by rw [← hk0]; exact (Int.ofNat_tmod y (j + 1)).symm
      have e4 : ¬ ((j : Int) + 1 = 0) := by omega
      have e5 : IntKind.i64.wrap (y : Int) = (y : Int) := IntWalk.i64_in _ ⟨by omega, by omega⟩
      have e6 : IntKind.i64.wrap (k : Int) = (k : Int) := IntWalk.i64_in _ ⟨by omega, by omega⟩
      have szs := hb.size
      have szb := SB.out
      have OA2 := Lib.hid (OA.out.grew hb)
      have OB2 := Lib.hid (OB.out.grew hb)
      have HV := Lib.hid hv.seq
      have HVL : Hid (∀ q, In (.slice av j cv) q → wB.heap.size ≤ q ∧ q < wr.heap.size) := Lib.hid fun q hq => ⟨hin q hq, hv.lt hq⟩
      -- the first ledger's part: its block, and what is new from here on
      obtain ⟨ws, rfl⟩ : ∃ ws, ws = wr := ⟨wr, rfl⟩
      obtain ⟨TA, hTA⟩ : ∃ TA : Nat → Prop, TA = fun q => q = w1.heap.size ∨ ws.heap.size ≤ q := ⟨_, rfl⟩
      have TAh : Hid (∀ q, TA q → w1.heap.size ≤ q) := Lib.hid fun q hq => by rw [hTA] at hq; omega
      have TAn : Hid (∀ q, ws.heap.size ≤ q → TA q) := Lib.hid fun q hq => by rw [hTA]; exact .inr hq
      have TAb : Hid (∀ q, q = w1.heap.size + 1 → ¬ TA q) := Lib.hid fun q hq hq' => by rw [hTA] at hq'; omega
      have TAv : Hid (∀ q, In (.slice av j cv) q → ¬ TA q) := Lib.hid fun q hq hq' => by have := HVL.out q hq; rw [hTA] at hq'; omega
      have SWB := Lib.hid szs
      have J0 := Lib.hid (show AddR w1 ws w1.heap.size TA (fun i => E.take i) j (.int .i64 0) ws from ⟨0, Nat.zero_le _, rfl, OA2.out.mono (fun q _ hq => by rw [hTA]; exact .inl hq) TAh.out, Upd.refl _ _⟩)
      clear hv hin hb hjn hk0 hTA szs szb eE
      go_wp2
      go_loopw [55] (fun i wx => AddR w1 ws w1.heap.size TA (fun i => E.take i) j i wx) (fun i _ => j - (intOf i).toNat)
      case atStart => exact J0.out
      case round =>
        clear J0
        obtain ⟨i, hij, rfl, ho, hu⟩ := hrel
        by_cases hin : i < j
        · have t5 : decide (i < j) = true := decide_eq_true hin
          have t5' : decide ((i : Int) < (j : Int)) = true := decide_eq_true (by omega)
          obtain ⟨e, he⟩ : ∃ e, E[i]? = some e := ⟨_, List.getElem?_eq_getElem (by rw [EL.out]; exact hin)⟩
          obtain ⟨b, off, ea', k0, k1, k2⟩ := (HV.out.upd hu TAv.out).blk (i := i) (x := e.b) (by rw [List.getElem?_map, he]; rfl)
          subst ea'
          have hm := List.mem_of_getElem? he
          have hz1 := GE.out.lt hm
          have hgg := (may_p2 (GE.out.may _ hm)).2.1
          have hadd := ord_add GE.out (k := E.length) he (FE.out e hm) (by rw [EL.out]; exact hin)
          rw [List.drop_of_length_le (Nat.le_refl _), List.append_nil, List.append_nil] at hadd
          obtain ⟨x, hx⟩ : ∃ x, e.a = x := ⟨_, rfl⟩
          obtain ⟨v, hv⟩ : ∃ v, e.n = v := ⟨_, rfl⟩
          obtain ⟨z, hz⟩ : ∃ z, e.g = z := ⟨_, rfl⟩
          have ezz : e.z = e.a + max e.n 1 := rfl
          rw [show e.b.1 = x from hx] at k0
          rw [show e.b.2.1 = v from hv] at k1
          rw [show e.b.2.2 = z from hz] at k2
          rw [hx, hv, hz] at hadd
          have KA := fun ob => add_round ho hu TAn.out (x := x) (y := v) (z := z) (by unfold U64B; omega) (by unfold U64B; omega) (by unfold U64B; omega) ob
          rw [hadd] at KA
          unfold blkV at KA
          have KA := Lib.hid KA
          have q5 : (0 : Int) ≤ (i : Int) := by omega
          have q6 : (i : Int) < (j : Int) := by omega
          clear ho hu he hm hz1 hgg hadd hx hv hz ezz
          go_wp2_with fail
          refine (KA.out _).mono ?_; rintro r wx ⟨rfl, ho, hu⟩
          have O5 := Lib.hid ho; have U5 := Lib.hid hu
          clear ho hu
          go_wp2_with fail
          go_roundw
          case rel => exact ⟨i + 1, by omega, by go_num, O5.out, U5.out⟩
          case measure => simp [intOf] <;> omega
        · obtain rfl : i = j := by omega
          have t5 : decide (i < i) = false := decide_eq_false hin
          have t5' : decide ((i : Int) < (i : Int)) = false := decide_eq_false (by omega)
          obtain ⟨w3, rfl⟩ : ∃ w3, w3 = wr := ⟨wr, rfl⟩
          have eE : E.take i = E := List.take_of_length_le (by rw [EL.out]; exact Nat.le_refl _)
          have ho : OL w1 w1.heap.size TA E w3 := by have := ho; simp only [eE] at this; exact this
          have OA3 := Lib.hid ho
          have OB3 := Lib.hid (ol_other OB2.out hu TAh.out fun q _ hq => TAb.out q hq)
          have hV3 := HV.out.upd hu TAv.out
          have HV3 := Lib.hid hV3
          have S3 := hu.size
          obtain ⟨sv1, hsl1, hsi1, hsq1, _⟩ := cut_from (E := Elem.blks) (P := Try.prog) 29 Try.underlying29 (fun w => by kernel_rfl) av i cv k hkj hcv1
          obtain ⟨sv2, hsl2, hsi2, hsq2⟩ := cut_to (E := Elem.blks) (P := Try.prog) 29 Try.underlying29 (fun w => by kernel_rfl) av i cv k (by omega)
          have Q1 : Hid (∀ w', Seq Elem.blks w' (.slice av i cv) (E.map En.b) → Seq Elem.blks w' sv1 ((E.drop k).map En.b)) := Lib.hid fun w' h => by rw [List.map_drop]; exact hsq1 w' _ h
          have Q2 : Hid (∀ w', Seq Elem.blks w' (.slice av i cv) (E.map En.b) → Seq Elem.blks w' sv2 ((E.take k).map En.b)) := Lib.hid fun w' h => by rw [List.map_take]; exact hsq2 w' _ h hkj
          clear ho hu hin eE hV3 hsi1 hsi2 hsq1 hsq2
          have kE : (E.drop k).length + (E.take k).length ≤ 61 := by rw [List.length_drop, List.length_take, EL.out]; omega
          have KE := Lib.hid kE
          have V0 : Hid (∀ g, g = w3.heap.size → Vec Elem.blks ((w3.alloc (.cells #[] 35)).drew) (.slice (some ⟨g, 0, none⟩) 0 0) []) := Lib.hid fun g hg => by subst hg; exact (Vec.new w3 35).drew
          have HA3 : Hid (∀ ob, Seq Elem.blks ((w3.alloc ob).drew) (.slice av i cv) (E.map En.b)) := Lib.hid fun ob => (HV3.out.alloc ob).drew
          have BA3 : Hid (∀ ob, Below w3.heap.size w3 ((w3.alloc ob).drew)) := Lib.hid fun ob => ((Below.refl _ w3).alloc (Nat.le_refl _) ob).drew
          clear kE
          go_wp2
          go_region_law (first
            | (refine step_append_vec (E := Elem.blks) rfl (.tmp 63) (.tmp 66) 29 rfl 35 i0 _ 24 Try.underlying29 hi hz0 hz1 hz2 rfl (.slice (some ⟨w3.heap.size, 0, none⟩) 0 0) sv1 [] ((E.drop k).map En.b) ?_ ?_ (V0.out _ rfl) (Q1.out _ (HA3.out _)) ?_ ?_ ?_; go_simp; go_simp; (have := KE.out; simp only [maxLen, List.length_nil, List.length_map]; omega); (have := KE.out; simp only [List.length_nil, List.length_map]; omega); intro v5 w5 hv5 hu5 hin5; have V5 := Lib.hid hv5; have IN5 : Hid (∀ q, In v5 q → w3.heap.size ≤ q) := Lib.hid fun q hq => (by
                rcases hin5 q hq with h | h
                · exact Nat.le_of_eq (in_blk h)
                · exact Nat.le_trans (BA3.out _).size h); have B5 := Lib.hid ((BA3.out _).trans (hu5.below (fun q hq => Nat.le_of_eq (in_blk hq)) (BA3.out _).size)); clear hv5 hu5 hin5)
            | (refine step_append_vec (E := Elem.blks) rfl (.tmp 67) (.tmp 70) 29 rfl 35 i0 _ 24 Try.underlying29 hi hz0 hz1 hz2 rfl v5 sv2 ([] ++ (E.drop k).map En.b) ((E.take k).map En.b) ?_ ?_ V5.out (Q2.out _ (HV3.out.below (Nat.le_refl _) B5.out)) ?_ ?_ ?_; go_simp; go_simp; (have := KE.out; simp only [maxLen, List.length_append, List.length_nil, List.length_map]; omega); (have := KE.out; simp only [List.length_append, List.length_nil, List.length_map]; omega); intro v6 w6 hv6 hu6 hin6; obtain ⟨a6, c6, e6, _, _⟩ := hv6.slice'; have B6 := Lib.hid (B5.out.trans (hu6.below IN5.out B5.out.size)); have V6 := Lib.hid hv6.seq; have L6 : Hid (([] ++ (E.drop k).map En.b ++ (E.take k).map En.b).length = i) := Lib.hid (by have := EL.out; simp only [List.length_append, List.length_nil, List.length_map, List.length_drop, List.length_take]; omega); rw [L6.out] at e6; subst e6; have IN6 : Hid (∀ q, In (.slice a6 i c6) q → w3.heap.size ≤ q ∧ q < w6.heap.size) := Lib.hid fun q hq => ⟨(by
                rcases hin6 q hq with h | h
                · exact IN5.out q h
                · exact Nat.le_trans B5.out.size h), hv6.lt hq⟩; clear hv6 hu6 hin6))
          have D6 : Hid (([] ++ (E.drop k).map En.b ++ (E.take k).map En.b) = (E.drop k ++ E.take k).map En.b) := Lib.hid (by simp)
          have HD6 := Lib.hid (show Seq Elem.blks w6 (.slice a6 i c6) ((E.drop k ++ E.take k).map En.b) by rw [← D6.out]; exact V6.out)
          -- the second ledger's part
          obtain ⟨TB, hTB⟩ : ∃ TB : Nat → Prop, TB = fun q => q = w1.heap.size + 1 ∨ w6.heap.size ≤ q := ⟨_, rfl⟩
          have TBh : Hid (∀ q, TB q → w1.heap.size ≤ q) := Lib.hid fun q hq => by have := SB.out; have := SWB.out; have := B6.out.size; rw [hTB] at hq; omega
          have TBn : Hid (∀ q, w6.heap.size ≤ q → TB q) := Lib.hid fun q hq => by rw [hTB]; exact .inr hq
          have TBd : Hid (∀ q, In (.slice a6 i c6) q → ¬ TB q) := Lib.hid fun q hq hq' => by have h1 := IN6.out q hq; have := SB.out; have := SWB.out; rw [hTB] at hq'; omega
          have TBv : Hid (∀ q, In (.slice av i cv) q → ¬ TB q) := Lib.hid fun q hq hq' => by have h1 := HVL.out q hq; have := SB.out; have := SWB.out; have := B6.out.size; rw [hTB] at hq'; omega
          have O3A := Lib.hid ((OA3.out.mono (T' := fun q => TA q ∧ q < w3.heap.size) (fun q hq hq' => ⟨hq', hq⟩) fun q hq => TAh.out q hq.1).grew B6.out)
          have TBa : Hid (∀ q, TA q ∧ q < w3.heap.size → ¬ TB q) := Lib.hid fun q hq hq' => by
            have h2 := TAb.out q
            have := B6.out.size
            rw [hTB] at hq'
            rcases hq' with hq' | hq'
            · exact h2 hq' hq.1
            · omega
          have J3 := Lib.hid (show AddR w1 w6 (w1.heap.size + 1) TB (turnM E k) i (.int .i64 0) w6 from ⟨0, Nat.zero_le _, rfl, by rw [turn_zero]; exact (OB3.out.grew B6.out).mono (fun q _ hq => by rw [hTB]; exact .inl hq) TBh.out, Upd.refl _ _⟩)
          clear V0 HA3 BA3 hTB Q1 Q2
          show Exit.then _ (Exit.then _ _) Exit.normal (Act.put _ (some 72) (.int .i64 (i : Int))) w6
          go_frame
          go_wp2
          go_loopw [73] (fun x wx => AddR w1 w6 (w1.heap.size + 1) TB (turnM E k) i x wx) (fun x _ => i - (intOf x).toNat)
          case atStart => exact J3.out
          case round =>
            clear J3
            obtain ⟨t, hij, rfl, ho, hu⟩ := hrel
            by_cases hin : t < i
            · have t5 : decide (t < i) = true := decide_eq_true hin
              have t5' : decide ((t : Int) < (i : Int)) = true := decide_eq_true (by omega)
              obtain ⟨e, he⟩ : ∃ e, (E.drop k ++ E.take k)[t]? = some e := ⟨_, List.getElem?_eq_getElem (by have := EL.out; rw [List.length_append, List.length_drop, List.length_take]; omega)⟩
              obtain ⟨b, off, ea', k0, k1, k2⟩ := (HD6.out.upd hu TBd.out).blk (i := t) (x := e.b) (by rw [List.getElem?_map, he]; rfl)
              subst ea'
              have hm : e ∈ E := by
                rcases List.mem_append.1 (List.mem_of_getElem? he) with h | h
                · exact List.mem_of_mem_drop h
                · exact List.mem_of_mem_take h
              have hz1 := GE.out.lt hm
              have hgg := (may_p2 (GE.out.may _ hm)).2.1
              have hadd := turn_next GE.out FE.out (k := k) (by rw [EL.out]; exact hkj) he
              obtain ⟨x, hx⟩ : ∃ x, e.a = x := ⟨_, rfl⟩
              obtain ⟨v, hv⟩ : ∃ v, e.n = v := ⟨_, rfl⟩
              obtain ⟨z, hz⟩ : ∃ z, e.g = z := ⟨_, rfl⟩
              have ezz : e.z = e.a + max e.n 1 := rfl
              rw [show e.b.1 = x from hx] at k0
              rw [show e.b.2.1 = v from hv] at k1
              rw [show e.b.2.2 = z from hz] at k2
              rw [hx, hv, hz] at hadd
              have KA := fun ob => add_round ho hu TBn.out (x := x) (y := v) (z := z) (by unfold U64B; omega) (by unfold U64B; omega) (by unfold U64B; omega) ob
              rw [hadd] at KA
              unfold blkV at KA
              have KA := Lib.hid KA
              have q5 : (0 : Int) ≤ (t : Int) := by omega
              have q6 : (t : Int) < (i : Int) := by omega
              clear ho hu he hm hz1 hgg hadd hx hv hz ezz
              go_wp2_with fail
              refine (KA.out _).mono ?_; rintro r wx ⟨rfl, ho, hu⟩
              have O5 := Lib.hid ho; have U5 := Lib.hid hu
              clear ho hu
              go_wp2_with fail
              go_roundw
              case rel => exact ⟨t + 1, by omega, by go_num, O5.out, U5.out⟩
              case measure => simp [intOf] <;> omega
            · obtain rfl : t = i := by omega
              have t5 : decide (t < t) = false := decide_eq_false hin
              have t5' : decide ((t : Int) < (t : Int)) = false := decide_eq_false (by omega)
              obtain ⟨w7, rfl⟩ : ∃ w7, w7 = wr := ⟨wr, rfl⟩
              have eM : turnM E k t = E := by have := turn_all (E := E) (k := k) (by rw [EL.out]; exact hkj); rwa [EL.out] at this
              rw [eM] at ho
              have OB7 := Lib.hid ho
              have OA7 := Lib.hid (ol_other O3A.out hu TBh.out fun q _ hq => TBa.out q hq)
              have HV7 := Lib.hid ((HV3.out.below (Nat.le_refl _) B6.out).upd hu TBv.out)
              have KAA := Lib.hid (All_any w7 OA7.out.led)
              obtain ⟨S, hS⟩ : ∃ S, sumN E = S := ⟨_, rfl⟩
              have HS := Lib.hid hS
              have S7 := Lib.hid hu.size
              clear ho hu hin eM hS
              have hi61 : t ≤ 1048576 := by omega
              go_wp2_with fail
              refine KAA.out.mono ?_; rintro r w8 ⟨v8, rfl, hv, hin8, hb⟩
              obtain ⟨a8, c8, e8, _, _⟩ := hv.slice'
              rw [List.length_map, EL.out] at e8
              subst e8
              have KS := same15 w8 hv.seq (HV7.out.below (Nat.le_refl _) hb) hi61 hi61
              rw [decide_eq_true rfl] at KS
              have KS := Lib.hid KS
              have D8 := Lib.hid hb
              clear hv hin8 hb KAA
              go_wp2_with fail
              refine KS.out.mono ?_; rintro r w9 ⟨rfl, hb⟩
              have D9 := Lib.hid (below_then D8.out D8.out.size hb)
              have KBA := Lib.hid (All_any w9 (OB7.out.grew D9.out).led)
              clear hb KS
              go_wp2_with fail
              refine KBA.out.mono ?_; rintro r w10 ⟨v10, rfl, hv, hin8, hb⟩
              obtain ⟨a10, c10, e10, _, _⟩ := hv.slice'
              rw [List.length_map, EL.out] at e10
              subst e10
              have D10 := Lib.hid (below_then D9.out D9.out.size hb)
              have KS := same15 w10 hv.seq (HV7.out.below (Nat.le_refl _) D10.out) hi61 hi61
              rw [decide_eq_true rfl] at KS
              have KS := Lib.hid KS
              clear hv hin8 hb KBA
              go_wp2_with fail
              refine KS.out.mono ?_; rintro r w11 ⟨rfl, hb⟩
              have D11 := Lib.hid (below_then D10.out D10.out.size hb)
              have KB1 := Bytes_any w11 (OA7.out.grew D11.out).led
              rw [HS.out] at KB1
              have KB1 := Lib.hid KB1
              clear hb KS
              go_wp2_with fail
              refine KB1.out.mono ?_; rintro r w12 ⟨rfl, hb⟩
              have D12 := Lib.hid (below_then D11.out D11.out.size hb)
              have KB2 := Bytes_any w12 (OB7.out.grew D12.out).led
              rw [HS.out] at KB2
              have KB2 := Lib.hid KB2
              clear hb KB1
              go_wp2_with fail
              refine KB2.out.mono ?_; rintro r w13 ⟨rfl, hb⟩
              have D13 := Lib.hid (below_then D12.out D12.out.size hb)
              clear hb KB2
              -- all are dropped again
              obtain ⟨TC, hTC⟩ : ∃ TC : Nat → Prop, TC = fun q => (TA q ∧ q < w3.heap.size) ∨ w13.heap.size ≤ q := ⟨_, rfl⟩
              have TCh : Hid (∀ q, TC q → w1.heap.size ≤ q) := Lib.hid fun q hq => by
                rw [hTC] at hq
                rcases hq with hq | hq
                · exact TAh.out q hq.1
                · have := (OA7.out.grew D13.out).below.size; omega
              have TCn : Hid (∀ q, w13.heap.size ≤ q → TC q) := Lib.hid fun q hq => by rw [hTC]; exact .inr hq
              have TCv : Hid (∀ q, In (.slice av t cv) q → ¬ TC q) := Lib.hid fun q hq hq' => by
                have h1 := HVL.out q hq
                have h2 := TAv.out q hq
                have := B6.out.size
                have := D13.out.size
                have := S7.out
                rw [hTC] at hq'
                rcases hq' with hq' | hq'
                · exact h2 hq'.1
                · omega
              have TCb : Hid (∀ q, q < w13.heap.size → TB q → ¬ TC q) := Lib.hid fun q hq hq2 hq' => by
                rw [hTC] at hq'
                rcases hq' with hq' | hq'
                · exact TBa.out q hq' hq2
                · omega
              have J4 := Lib.hid (show AddR w1 w13 w1.heap.size TC (fun i => E.drop i) t (.int .i64 0) w13 from ⟨0, Nat.zero_le _, rfl, (OA7.out.grew D13.out).mono (fun q _ hq => by rw [hTC]; exact .inl hq) TCh.out, Upd.refl _ _⟩)
              have HV13 := Lib.hid (HV7.out.below (Nat.le_refl _) D13.out)
              clear hTC
              go_wp2
              go_loopw [98] (fun x wx => AddR w1 w13 w1.heap.size TC (fun i => E.drop i) t x wx) (fun x _ => t - (intOf x).toNat)
              case atStart => exact J4.out
              case round =>
                clear J4
                obtain ⟨u, hij, rfl, ho, hu⟩ := hrel
                by_cases hin : u < t
                · have t6 : decide (u < t) = true := decide_eq_true hin
                  have t6' : decide ((u : Int) < (t : Int)) = true := decide_eq_true (by omega)
                  obtain ⟨e, he⟩ : ∃ e, E[u]? = some e := ⟨_, List.getElem?_eq_getElem (by rw [EL.out]; exact hin)⟩
                  obtain ⟨b, off, ea', k0, k1, k2⟩ := (HV13.out.upd hu TCv.out).blk (i := u) (x := e.b) (by rw [List.getElem?_map, he]; rfl)
                  subst ea'
                  have hdr := ord_drop GE.out he
                  obtain ⟨x, hx⟩ : ∃ x, e.a = x := ⟨_, rfl⟩
                  obtain ⟨v, hv⟩ : ∃ v, e.n = v := ⟨_, rfl⟩
                  obtain ⟨z, hz⟩ : ∃ z, e.g = z := ⟨_, rfl⟩
                  rw [show e.b.1 = x from hx] at k0
                  rw [show e.b.2.1 = v from hv] at k1
                  rw [show e.b.2.2 = z from hz] at k2
                  rw [hx] at hdr
                  have KD := fun ob => drop_round ho hu TCn.out x ob
                  rw [hdr] at KD
                  have KD := Lib.hid KD
                  have q5 : (0 : Int) ≤ (u : Int) := by omega
                  have q6 : (u : Int) < (t : Int) := by omega
                  clear ho hu he hdr hx hv hz
                  go_wp2_with fail
                  refine (KD.out _).mono ?_; rintro r wx ⟨rfl, ho, hu⟩
                  have O5 := Lib.hid ho; have U5 := Lib.hid hu
                  clear ho hu
                  go_wp2_with fail
                  go_roundw
                  case rel => exact ⟨u + 1, by omega, by go_num, O5.out, U5.out⟩
                  case measure => simp [intOf] <;> omega
                · obtain rfl : u = t := by omega
                  have t6 : decide (u < u) = false := decide_eq_false hin
                  have t6' : decide ((u : Int) < (u : Int)) = false := decide_eq_false (by omega)
                  obtain ⟨w14, rfl⟩ : ∃ w14, w14 = wr := ⟨wr, rfl⟩
                  have eD : E.drop u = [] := List.drop_of_length_le (by rw [EL.out]; exact Nat.le_refl _)
                  have ho : OL w1 w1.heap.size TC [] w14 := by have := ho; simp only [eD] at this; exact this
                  have OA14 := Lib.hid ho
                  have OB14 := Lib.hid (ol_other (OB7.out.grew D13.out) hu TCh.out fun q hq hq' => TCb.out q hq hq')
                  have KAA := Lib.hid (All_any w14 OA14.out.led)
                  clear ho hu hin eD
                  go_wp2_with fail
                  refine KAA.out.mono ?_; rintro r w15 ⟨v15, rfl, hv, _, hb⟩
                  obtain ⟨a15, c15, e15, _, _⟩ := hv.slice'
                  subst e15
                  have D15 := Lib.hid hb
                  have KB1 := Bytes_any w15 (OA14.out.grew hb).led
                  rw [show sumN [] = 0 from rfl] at KB1
                  have KB1 := Lib.hid KB1
                  clear hv hb KAA
                  go_wp2_with fail
                  refine KB1.out.mono ?_; rintro r w16 ⟨rfl, hb⟩
                  have D16 := Lib.hid (below_then D15.out D15.out.size hb)
                  have KAB := Lib.hid (All_any w16 (OB14.out.grew D16.out).led)
                  clear hb KB1
                  go_wp2_with fail
                  refine KAB.out.mono ?_; rintro r w17 ⟨v17, rfl, hv, _, hb⟩
                  obtain ⟨a17, c17, e17, _, _⟩ := hv.slice'
                  rw [List.length_map, EL.out] at e17
                  subst e17
                  have D17 := Lib.hid (below_then D16.out D16.out.size hb)
                  clear hv hb KAB
                  go_wp2_with fail
                  go_ret
                  exact ⟨rfl, below_then B1.out B1.out.size (OA14.out.grew D17.out).below⟩
theorem walk (w : World) {a : Option Addr} {n cap : Nat} (l : List Int) (h : NumsAt w .u8 (.slice a n cap) l) (y : Int) (hy : (Lit.int .u8 y).wf = true) :
    Calls Try.prog 8 #[.slice a n cap, .int .u8 y] w fun e w' => e = .returned (.bool true) ∧ Below w.heap.size w w' := by
  have b2 := u8_bd hy
  obtain ⟨y, rfl⟩ := Int.eq_ofNat_of_zero_le b2.1
  by_cases hl : n ≤ 60
  · exact walk_short w l h y (by omega) hl
  · have t0 : decide ((60 : Int) < (n : Int)) = true := decide_eq_true (by omega)
    have AL := Lib.hid (alive_any w)
    clear h hl
    go_enter Try.func8, Try.ntmps8
    go_wp2_with fail
    refine AL.out.mono ?_; rintro e w1 ⟨rfl, hb⟩
    go_wp2_with fail
    go_ret
    exact ⟨rfl, hb⟩
end Go.Proofs.Ytklblmodpkhjnaa.ledgerOrders
