/- The law SegWrites, walked. -/
import Derived.Test.YtomepdgddpajoaaDoorAliveS
import Derived.Test.YtomepdgddpajoaaDoorDoS
import Derived.Test.YtomepdgddpajoaaDoorSegWr
namespace Go.Proofs.YtomepdgddpajoaaDoor.segWrites
open Go.RowKit ListMath PageMath GeoMath SegMath ClassMath
set_option linter.unusedVariables false

theorem u8_bd {n : Int} (h : (Lit.int .u8 n).wf = true) : 0 ≤ n ∧ n ≤ 255 := by
  simp [Lit.wf, IntKind.min, IntKind.max, IntKind.signed, IntKind.bits] at h; omega
theorem low_one : ∀ k : Fin 5, 1 ≤ k.1 → MarkMath.low newK k.1 = some 1 := by decide
theorem one8 (w : World) (t : TypeId) (x g : Nat) (hg : g = w.heap.size) : Reads8 (w.alloc (.cells #[.int .u8 (x : Int)] t)) (.slice (some ⟨g, 0, none⟩) 1 1) [x] := by
  subst hg
  refine .inl ⟨w.heap.size, 0, 1, rfl, fun j hj => ?_⟩
  have hj0 : j = 0 := by simpa using hj
  subst hj0
  exact (Blk.new w t #[.int .u8 (x : Int)]).cell 0
def oP (op pp : Nat) (cls : Int) (wd f s n j : Nat) : OwR := ⟨op, pp, cls, 1, wd, fresh f s n j⟩
def Kept (L : List Nat) (f s cb k : Nat) : Prop := ∀ i, i < k → MemMath.part L (f + i * s) s = MemMath.rep s cb
def R1 (w : World) (C : SgC w) (sp p g : Nat) (I : Nat → Prop) (c : Addr) (op pp : Nat) (cls : Int) (wd f s n cb : Nat) (v i : Value) (wr : World) : Prop :=
  ∃ (j : Nat) (L : List Nat) (X : SG), j ≤ 3 ∧ i = .int .i64 (j : Int) ∧ OSg C sp p g I c L X wr ∧ X.L = [oP op pp cls wd f s n j] ∧ Kept L f s cb j ∧ Vec Elem.u64s wr v (news f s 0 j) ∧ (∀ b, In v b → ¬ SO p g I X b ∧ w.heap.size ≤ b)
theorem alloc_new {f s n : Nat} (hn : 1 ≤ n) : allocP (newPG f s n) = (fresh f s n 1, f, 0) := by
  rw [← fresh_zero f s n, fresh_alloc hn]; simp
/-- Written within another page's blocks alone: what was kept is. -/
theorem kept_far {L L' : List Nat} {X : SG} (g : GoodG X) (hl : L.length = 65536) {f s nn cb : Nat} {o0 o : OwR} (h0 : o0 ∈ X.L) (ho : o ∈ X.L) (hne : o0.lo ≠ o.lo) (e0 : o0.P.f = f ∧ o0.P.s = s ∧ o0.P.n = nn) (hn : 3 ≤ nn) (hs : f + 3 * s ≤ 65536) (hk : Kept L f s cb 3)
    (hp : ∀ q n, q + n ≤ L.length → (q + n ≤ o.P.f ∨ o.P.f + o.P.n * o.P.s ≤ q) → MemMath.part L' q n = MemMath.part L q n) : Kept L' f s cb 3 := fun i hi => by
  have h1 := g.apart h0 ho (fun e => hne (by rw [e]))
  obtain ⟨rfl, rfl, rfl⟩ := e0
  have h2 : (i + 1) * o0.P.s ≤ 3 * o0.P.s := Nat.mul_le_mul_right _ hi
  have h3 : 3 * o0.P.s ≤ o0.P.n * o0.P.s := Nat.mul_le_mul_right _ hn
  rw [Nat.add_mul] at h2
  exact (hp _ _ (by rw [hl]; omega) (by omega)).trans (hk i hi)
def P3 (f s n : Nat) : PG := { fresh f s n 1 with G := f :: (fresh f s n 1).G, used := (fresh f s n 1).used - 1 }
def R3 (w0 : World) (i : Value) (wr : World) : Prop := ∃ t : Nat, t ≤ 3 ∧ i = .int .i64 (t : Int) ∧ Below w0.heap.size w0 wr
def R4 (w0 : World) (n : Nat) (i : Value) (wr : World) : Prop := ∃ t : Nat, t ≤ n ∧ i = .int .i64 (t : Int) ∧ Below w0.heap.size w0 wr
def R2 (w : World) (C : SgC w) (sp p g : Nat) (I : Nat → Prop) (c : Addr) (X5 : SG) (o0 : OwR) (f s cb : Nat) (w6 : World) (k : Nat) (i : Value) (wr : World) : Prop :=
  ∃ (t : Nat) (L : List Nat) (X : SG), t ≤ k ∧ i = .int .i64 (t : Int) ∧ OSg C sp p g I c L X wr ∧ (∀ q, t ≤ q → X.L[q]? = X5.L[q]?) ∧ o0 ∈ X.L ∧ (∀ b, SO p g I X b ↔ SO p g I X5 b) ∧ Kept L f s cb 3 ∧ Upd (SO p g I X5) w6 wr
set_option maxHeartbeats 8000000 in
set_option maxRecDepth 100000 in
theorem walk_of (w : World) (C : SgC w) {a : Option Addr} {n cap : Nat} (len : Nat) (F : Nat → Nat → Value) (hr : Recs w (.slice a n cap) [.num .i64, .num .i64, .num .u64] len F) (m : Int) (h1 : (Lit.int .u8 m).wf = true) (fb : Int) (h2 : (Lit.int .u8 fb).wf = true) :
    Calls Tryd.prog 8 #[.slice a n cap, .int .u8 m, .int .u8 fb] w fun e w' => e = .returned (.bool true) ∧ Below w.heap.size w w' := by
  obtain ⟨rfl, hn1, hn2⟩ := hr.len
  have b1 := u8_bd h1
  have b2 := u8_bd h2
  obtain ⟨m, rfl⟩ := Int.eq_ofNat_of_zero_le b1.1
  obtain ⟨cb, rfl⟩ := Int.eq_ofNat_of_zero_le b2.1
  have b1' : m ≤ 255 := by omega
  have b2' : cb ≤ 255 := by omega
  obtain ⟨cc, hc⟩ : ∃ c, m % 12 = c := ⟨_, rfl⟩
  have hc1 : cc < 12 := by omega
  have hm1 : Int.tmod (m : Int) 12 = (cc : Int) := by rw [← hc]; exact (Int.ofNat_tmod _ _).symm
  have hm2 : (m : Int) % 12 = (cc : Int) := by omega
  have HA := Lib.hid (alive_s w C)
  obtain ⟨i0, hi, hz0, hz1, hz2⟩ := info_parts infoU64
  have HF := Lib.hid hr
  clear h1 h2 b1 b2 hr hc
  go_enter Tryd.func8, Tryd.ntmps8
  go_wp2_with fail
  refine HA.out.mono ?_; rintro e w1 ⟨rfl, hb⟩
  have B1 := Lib.hid hb; clear hb
  go_wp2_with fail
  refine (newMem 65536 (by decide) (by decide) (by decide) _).mono ?_; rintro e w2 ⟨p, g, L0, rfl, hm, hlen, fp, fg, hb⟩
  have M2 := Lib.hid hm; have B2 := Lib.hid (below_then B1.out B1.out.size hb); have N2 := Lib.hid hlen
  have fp' := Nat.le_trans B1.out.size fp; have fg' := Nat.le_trans B1.out.size fg
  clear hm hlen hb fp fg
  go_wp2_with fail
  refine (os_new (C := C) (pl := 1) B2.out M2.out fp' fg' N2.out (by decide)).mono ?_; rintro e w3 ⟨sp, c, I0, rfl, hh, _, _⟩
  have H3 := Lib.hid hh
  clear hh fp' fg'
  by_cases hl60 : 60 < n
  · have t1 : decide ((60 : Int) < (n : Int)) = true := decide_eq_true (by omega)
    have t1' : decide (60 < n) = true := decide_eq_true hl60
    go_wp2
    go_ret
    exact ⟨rfl, H3.out.below⟩
  have hl60' : n ≤ 60 := by omega
  have t1 : decide ((60 : Int) < (n : Int)) = false := decide_eq_false (by omega)
  have t1' : decide (60 < n) = false := decide_eq_false hl60
  have HL60 := Lib.hid hl60'
  have sb := slices_bounds hc1
  obtain ⟨sc1, sc2, sc3, sc4, _, _⟩ := size_class cc hc1
  have pgc := os_page H3.out hc1 (low_one ⟨slicesAt cc, by omega⟩ sb.1)
  obtain ⟨wd, hwd⟩ : ∃ x, slicesAt cc = x := ⟨_, rfl⟩
  obtain ⟨s, hs⟩ : ∃ x, sizeAt cc = x := ⟨_, rfl⟩
  obtain ⟨nn, hnn⟩ : ∃ x, blocksAt cc = x := ⟨_, rfl⟩
  rw [hwd, hs, hnn] at pgc
  rw [hs] at sc1 sc2
  rw [hnn] at sc1 sc3 sc4
  rw [hwd] at sc1 sb
  have hsb : s ≤ 4096 := by have := Nat.mul_le_mul_left s (show 1 ≤ nn by omega); omega
  have PGC := Lib.hid pgc
  clear hl60 hl60' pgc hwd hs hnn
  go_wp2_with fail
  refine PGC.out.mono ?_; rintro e w4 ⟨op, pp, I, rfl, hh, _, _, _, _⟩
  have J0 : Hid (R1 w C sp p g I c op pp (cc : Int) wd 17408 s nn cb (.slice none 0 0) (.int .i64 0) w4) := Lib.hid ⟨0, L0, _, by omega, rfl, hh, by
    show insR [] _ = _
    unfold oP
    rw [fresh_zero]
    rfl, (fun i hi => by omega), Vec.nil _, (by intro b hb; cases hb)⟩
  clear hh t1 t1' PGC
  go_wp2
  go_loopw [13, 56] (fun v i wr => R1 w C sp p g I c op pp (cc : Int) wd 17408 s nn cb v i wr) (fun _ i _ => 3 - (intOf i).toNat)
  case atStart => exact J0.out
  case round =>
    clear J0
    obtain ⟨j, L, X, hj, rfl, ho, hX, hkp, hv, hfar⟩ := hrel
    obtain ⟨a', cap', rfl, hvc1, hvc2⟩ := hv.slice'
    rw [news_len] at hv hfar hvc1 ⊢
    have hmem : oP op pp (cc : Int) wd 17408 s nn j ∈ X.L := by rw [hX]; exact List.mem_singleton.2 rfl
    have OS := Lib.hid ho; have HX := Lib.hid hX; have KP := Lib.hid hkp; have V := Lib.hid hv; have FAR := Lib.hid hfar; have HM := Lib.hid hmem
    clear ho hX hkp hv hfar hmem
    by_cases hj3 : j < 3
    · have t1 : decide ((j : Int) < 3) = true := decide_eq_true (by omega)
      have hjn : j < nn := by omega
      have ej : (((j + 1 : Nat)) : Int) = (j : Int) + 1 := by omega
      have c0 : wr.cell? ⟨op, 0, none⟩ = some (.pointer (some ⟨pp, 0, none⟩)) := OS.out.c0 HM.out
      have al := OS.out.alloc HM.out
      unfold oP at al
      simp only [] at al
      rw [fresh_alloc hjn] at al
      obtain ⟨x, hx⟩ : ∃ x, 17408 + j * s = x := ⟨_, rfl⟩
      simp only [hx] at al
      have HXX := Lib.hid hx
      have AL := Lib.hid al
      clear al hx
      go_wp2_with fail
      refine AL.out.mono ?_; rintro e w6 ⟨rfl, L6, hh, ha, hu⟩
      have hX6 : (X.put pp (fresh 17408 s nn (j + 1))).L = [oP op pp (cc : Int) wd 17408 s nn (j + 1)] := put_one HX.out rfl
      have hso : ∀ b, SO p g I (X.put pp (fresh 17408 s nn (j + 1))) b ↔ SO p g I X b := fun b => SO.put
      have gpj := (OS.out.sg.pg _ HM.out).2.1
      have hkp6 : Kept L6 17408 s cb j := fun i hi => by
        have := alloc_part gpj ha (fresh_blk (s := s) (f := 17408) hi (by omega))
        have h2 := KP.out i hi
        exact this.trans h2
      have hv6 := V.out.upd hu fun b hb => (FAR.out b hb).1
      obtain ⟨X6, hX6e⟩ : ∃ X6, X.put pp (fresh 17408 s nn (j + 1)) = X6 := ⟨_, rfl⟩
      rw [hX6e] at hh hX6 hso
      have hmem6 : oP op pp (cc : Int) wd 17408 s nn (j + 1) ∈ X6.L := by rw [hX6]; exact List.mem_singleton.2 rfl
      have OS6 := Lib.hid hh; have HX6 := Lib.hid hX6; have KP6 := Lib.hid hkp6; have V6 := Lib.hid hv6; have HM6 := Lib.hid hmem6; have SO6 := Lib.hid hso
      have RUN6 : Hid (Calls Tryd.prog 31 #[.pointer (some ⟨pp, 0, none⟩)] w6 fun e w2 => e = .returned (.agg #[.int .u64 17408, .int .u64 (s : Int), .int .i64 (nn : Int)]) ∧ OSg C sp p g I c L6 X6 w2 ∧ Below w6.heap.size w6 w2) := Lib.hid (hh.run hmem6)
      have c06 : w6.cell? ⟨op, 0, none⟩ = some (.pointer (some ⟨pp, 0, none⟩)) := hh.c0 hmem6
      have RS : ∀ w, (Instr.field 68 (.agg #[.int .u64 17408, .int .u64 (s : Int), .int .i64 (nn : Int)]) 1).run Tryd.prog w = .ok (.int .u64 (s : Int)) w := run_s 17408 s (nn : Int)
      clear hh ha hu hX6 hso gpj hkp6 hv6 hX6e hmem6 c0 AL
      go_wp2_with fail
      refine RUN6.out.mono ?_; rintro e w7 ⟨rfl, hh, hb7⟩
      have OS7 := Lib.hid hh
      have V7 := Lib.hid (V6.out.upd (updFalse_of hb7) fun _ _ => id)
      clear hh hb7 c06
      have fl := (OS7.out.grew ((Below.refl _ w7).alloc (Nat.le_refl _) (.cells #[.int .u8 (cb : Int)] 5))).fill HM6.out (x := x) (by rw [← HXX.out]; exact fresh_blk (Nat.lt_succ_self j) (by omega)) (by rw [← HXX.out]; exact (fresh_out (by omega) (Nat.lt_succ_self j)).1) (by rw [← HXX.out]; exact (fresh_out (by omega) (Nat.lt_succ_self j)).2) (one8 w7 5 cb _ rfl) b2'
      have FL := Lib.hid fl
      clear fl
      go_wp2_with fail
      refine FL.out.mono ?_; rintro e w8 ⟨rfl, M8, hh, hp8, hoff, hu8⟩
      have hfar8 : ∀ b, In (.slice a' j cap') b → ¬ SO p g I X6 b := fun b hb x => (FAR.out b hb).1 ((SO6.out b).1 x)
      have hv8 := (V7.out.alloc (.cells #[.int .u8 (cb : Int)] 5)).upd hu8 hfar8
      have hlen6 := OS6.out.sg.len
      have hkp8 : Kept M8 17408 s cb (j + 1) := fun i hi => by
        rcases Nat.lt_or_ge i j with h1 | h1
        · have h2 : (i + 1) * s ≤ j * s := Nat.mul_le_mul_right s h1
          rw [Nat.add_mul] at h2
          have h3 : j * s ≤ 3 * s := Nat.mul_le_mul_right s (by omega)
          have h4 := HXX.out
          exact (hoff (17408 + i * s) s (by rw [hlen6]; omega) (.inl (by omega))).trans (KP6.out i h1)
        · obtain rfl : i = j := by omega
          rw [HXX.out]; exact hp8
      have OS8 := Lib.hid hh; have V8 := Lib.hid hv8; have KP8 := Lib.hid hkp8; have S8 := Lib.hid hu8.size
      clear hh hp8 hoff hu8 hfar8 hv8 hlen6 hkp8 FL
      go_wp2_with (at_builtin; refine wpList_append_vec (E := Elem.u64s) rfl (.tmp 82) (.tmp 84) 82 rfl 28 i0 (.int .u64 0) 8 Tryd.underlying82 hi hz0 hz1 hz2 rfl (.slice a' j cap') (.slice (some ⟨w8.heap.size, 0, none⟩) 1 1) (news 17408 s 0 j) [x] rfl rfl (V8.out.alloc _) (u64_oneAt _ _ x _ rfl) ?_ ?_ ?_; (rw [news_len]; simp only [maxLen, List.length_cons, List.length_nil]; omega); (rw [news_len]; simp only [List.length_cons, List.length_nil]; omega); intro v2 w9 hv2 hu2 hin2; have V9 := Lib.hid hv2; have U9 := Lib.hid hu2; have N9 := Lib.hid hin2; clear hv2 hu2 hin2)
      go_roundw
      case rel =>
        have hnb : ∀ b, SO p g I X6 b → ¬ In (.slice a' j cap') b := fun b hb hi => (FAR.out b hi).1 ((SO6.out b).1 hb)
        have hos := (OS8.out.grew ((Below.refl _ w8).alloc (Nat.le_refl _) (.cells #[.int .u64 (x : Int)] 28))).upd U9.out (fun b hb => ⟨fun y => hnb b y hb, (FAR.out b hb).2⟩)
        refine ⟨j + 1, M8, X6, by omega, by rw [ej], hos, HX6.out, KP8.out, ?_, fun b hb => ?_⟩
        · have := V9.out
          rw [← HXX.out] at this
          have e2 := news_snoc 17408 s 0 j
          rw [Nat.zero_add] at e2
          rw [e2]; exact this
        · rcases N9.out b hb with z | z
          · exact ⟨fun y => hnb b y z, (FAR.out b z).2⟩
          · have h1 := OS8.out.below.size
            have h2 : w8.heap.size + 1 ≤ b := by simpa using z
            exact ⟨fun y => by have := OS8.out.sg.lt y; omega, by omega⟩
      case measure => simp [intOf]; omega
    · obtain rfl : j = 3 := by omega
      have t1 : decide ((3 : Int) < 3) = false := by decide
      go_wp2_with fail
      refine (do_any w C OS.out HF.out HL60.out).mono ?_; rintro e w5 ⟨rfl, I5, X5, hh, hd, hg, hu⟩
      have hv5 := V.out.upd hu fun b hb => (FAR.out b hb).1
      have hfar5 : ∀ b, In (.slice a' 3 cap') b → ¬ SO p g I5 X5 b := fun b hb x => by
        rcases hg b x with y | y
        · exact (FAR.out b hb).1 y
        · have := V.out.lt hb; omega
      have ho5 : oP op pp (cc : Int) wd 17408 s nn 3 ∈ X5.L := hd.stay _ HM.out (show 0 < 3 by omega)
      have hnew5 : ∀ o ∈ X5.L, o = oP op pp (cc : Int) wd 17408 s nn 3 ∨ ∃ f s n, o.P = newPG f s n := fun o ho => by
        rcases hd.new o ho with x | x
        · rw [HX.out] at x; exact .inl (List.mem_singleton.1 x)
        · exact .inr x
      have H5 := Lib.hid hh; have V5 := Lib.hid hv5; have FAR5 := Lib.hid hfar5; have O5 := Lib.hid ho5; have NW := Lib.hid hnew5
      clear hh hd hg hu hv5 hfar5 ho5 hnew5
      go_wp2_with fail
      refine (os_pages H5.out).mono ?_; rintro e w6 ⟨qa, k, cv, rfl, hq, q2, q3, hin, hh, hb6⟩
      have hk : k = X5.L.length := by have := hq.len; rw [List.length_map] at this; exact this
      have hk15 : k ≤ 15 := by rw [hk]; exact H5.out.sg.good.count
      have hqs : ∀ b, In (.slice qa k cv) b → ¬ SO p g I5 X5 b := fun b hb x => by have h1 := hin b hb; have h2 := H5.out.sg.lt x; omega
      have hv6 := V5.out.upd (updFalse_of hb6) fun _ _ => id
      have Q0 : Hid (R2 w C sp p g I5 c X5 (oP op pp (cc : Int) wd 17408 s nn 3) 17408 s cb w6 k (.int .i64 0) w6) := Lib.hid ⟨0, L, X5, Nat.zero_le _, rfl, hh, fun _ _ => rfl, O5.out, fun _ => Iff.rfl, KP.out, Upd.refl _ _⟩
      have HK := Lib.hid hk; have Q6 := Lib.hid hq; have QS := Lib.hid hqs; have V6 := Lib.hid hv6
      clear hh hq hin q2 q3 hk hqs hv6 hb6 t1 H5 HM V5
      go_wp2
      go_loopw [93] (fun i wr => R2 w C sp p g I5 c X5 (oP op pp (cc : Int) wd 17408 s nn 3) 17408 s cb w6 k i wr) (fun i _ => k - (intOf i).toNat)
      case atStart => exact Q0.out
      case round =>
        clear Q0
        obtain ⟨t, L2, X2, ht, rfl, ho2, hun, hm0, hso, hkp, hu⟩ := hrel
        have OS2 := Lib.hid ho2; have UN := Lib.hid hun; have M0 := Lib.hid hm0; have SO2 := Lib.hid hso; have KP2 := Lib.hid hkp; have U2 := Lib.hid hu
        clear ho2 hun hm0 hso hkp hu
        by_cases htk : t < k
        · have htl : t < X5.L.length := by rw [← HK.out]; exact htk
          obtain ⟨o, hoe⟩ : ∃ o, X5.L[t]? = some o := ⟨X5.L[t]'htl, List.getElem?_eq_getElem _⟩
          have hoe2 : X2.L[t]? = some o := (UN.out t (Nat.le_refl t)).trans hoe
          have hoX : o ∈ X2.L := List.mem_of_getElem? hoe2
          have hoX5 : o ∈ X5.L := List.mem_of_getElem? hoe
          obtain ⟨b, off, ea, hcell⟩ := (Q6.out.upd U2.out QS.out).elem (show (X5.L.map fun o => some (⟨o.op, 0, none⟩ : Addr))[t]? = some (some ⟨o.op, 0, none⟩) by rw [List.getElem?_map, hoe]; rfl)
          have d0 : wr.cell? ⟨b, off + t, none⟩ = some (.pointer (some ⟨o.op, 0, none⟩)) := by
            have h0 := hcell 0 (.pointer (some ⟨o.op, 0, none⟩)) rfl
            simpa [Elem.ptrs] using h0
          subst ea
          have t1 : decide ((t : Int) < (k : Int)) = true := decide_eq_true (by omega)
          have t1' : decide (t < k) = true := decide_eq_true htk
          have p0 : (0 : Int) ≤ (t : Int) := by omega
          have p1 : (t : Int) < (k : Int) := by omega
          have ej : (((t + 1 : Nat)) : Int) = (t : Int) + 1 := by omega
          have e2 : wr.cell? ⟨op, 2, none⟩ = some (.int .i64 1) := OS2.out.c2 M0.out
          have c2 := OS2.out.c2 hoX
          have MO := Lib.hid hoX; have HOE := Lib.hid hoe2
          have hnw := NW.out o hoX5
          clear hoe hoe2 hoX hcell
          by_cases hlo : o.lo = 1
          · rw [hlo] at c2
            have oe : wr.cell? ⟨o.op, 2, none⟩ = some (.int .i64 1) := c2
            have t2 : ((1 : Int) == 1) = true := by decide
            have UD := Lib.hid (show Upd (SO p g I5 X5) w6 wr from U2.out)
            clear hlo c2 hnw hoX5
            go_wp2
            go_quiet (fail)
            clear d0 e2 oe
            go_wp2
            go_roundw
            case rel =>
              have hbd := below_drewN (Below.refl wr.heap.size wr) nq
              exact ⟨t + 1, L2, X2, by omega, by rw [ej], OS2.out.grew hbd, fun q hq => UN.out q (by omega), M0.out, SO2.out, KP2.out, U2.out.trans ((updFalse_of hbd).mono fun _ x => x.elim)⟩
            case measure => simp [intOf]; omega
          · have t2 : ((o.lo : Int) == 1) = false := by rw [beq_eq_false_iff_ne]; omega
            obtain ⟨op2, pp2, cls2, lo2, wd2, P2⟩ := o
            have hP : ∃ f s n, P2 = newPG f s n := by
              rcases hnw with x | x
              · exfalso; apply hlo; rw [x]; rfl
              · exact x
            obtain ⟨f2, s2, n2, rfl⟩ := hP
            simp only [] at c2 d0 t2 hlo
            have hcls := OS2.out.sg.good.cls _ MO.out
            have hfit := OS2.out.sg.good.fit _ MO.out
            have hsz := hcls.size hfit.2.1
            have h16 : 16 ≤ s2 := hsz.1
            have hn2 : 1 ≤ n2 := hsz.2.1
            have hne0 : (1 : Nat) ≠ lo2 := fun e => hlo e.symm
            clear hnw hoX5 hcls hfit hsz
            go_wp2
            go_quiet (fail)
            have hbd := below_drewN (Below.refl wr.heap.size wr) nq
            have hosW := OS2.out.grew hbd
            have huW := U2.out.trans ((updFalse_of hbd).mono (T := SO p g I5 X5) fun _ x => x.elim)
            generalize wr.drewN nq = W1 at hosW huW ⊢
            have cW : W1.cell? ⟨op2, 0, none⟩ = some (.pointer (some ⟨pp2, 0, none⟩)) := hosW.c0 MO.out
            have al := hosW.alloc MO.out
            simp only [] at al
            rw [alloc_new hn2] at al
            have AL := Lib.hid al
            have UW := Lib.hid huW
            clear d0 e2 c2 hbd hosW huW al
            go_wp2_with fail
            refine AL.out.mono ?_; rintro e w7 ⟨rfl, L7, hh, ha, hu⟩
            have gX2 := OS2.out.sg.good
            have hl2 := OS2.out.sg.len
            have hkp7 : Kept L7 17408 s cb 3 := kept_far gX2 hl2 M0.out MO.out hne0 ⟨rfl, rfl, rfl⟩ sc3 (by omega) KP2.out fun q n' hq hx => ha.part hq fun y hy => by
              have h1 := newsOf_in (OS2.out.sg.pg _ MO.out).2.1 y hy
              rcases hx with hx | hx
              · left; omega
              · right; omega
            have hso7 : ∀ b, SO p g I5 (X2.put pp2 (fresh f2 s2 n2 1)) b ↔ SO p g I5 X5 b := fun b => SO.put.trans (SO2.out b)
            have m1 : (⟨op2, pp2, cls2, lo2, wd2, fresh f2 s2 n2 1⟩ : OwR) ∈ (X2.put pp2 (fresh f2 s2 n2 1)).L := put_mem.2 ⟨_, MO.out, (if_pos rfl).symm⟩
            have hpp0 : pp ≠ pp2 := fun e => by
              have := pp_one OS2.out.sg.pps M0.out MO.out e
              exact hne0 (congrArg OwR.lo this)
            have m07 : oP op pp (cc : Int) wd 17408 s nn 3 ∈ (X2.put pp2 (fresh f2 s2 n2 1)).L := put_stay (o := ⟨op2, pp2, cls2, lo2, wd2, newPG f2 s2 n2⟩) M0.out hpp0
            have hun7 : ∀ q, t + 1 ≤ q → (X2.put pp2 (fresh f2 s2 n2 1)).L[q]? = X5.L[q]? := fun q hq => (put_other (o := ⟨op2, pp2, cls2, lo2, wd2, newPG f2 s2 n2⟩) OS2.out.sg.pps HOE.out (by omega)).trans (UN.out q (by omega))
            have hat7 : (X2.put pp2 (fresh f2 s2 n2 1)).L[t]? = some ⟨op2, pp2, cls2, lo2, wd2, fresh f2 s2 n2 1⟩ := put_at (o := ⟨op2, pp2, cls2, lo2, wd2, newPG f2 s2 n2⟩) HOE.out
            have hu7 := UW.out.trans (hu.mono fun b hb => (SO2.out b).1 hb)
            obtain ⟨X7, hX7⟩ : ∃ X7, X2.put pp2 (fresh f2 s2 n2 1) = X7 := ⟨_, rfl⟩
            rw [hX7] at hh hso7 m1 m07 hun7 hat7
            have OS7 := Lib.hid hh; have KP7 := Lib.hid hkp7; have SO7 := Lib.hid hso7; have M1 := Lib.hid m1; have M07 := Lib.hid m07; have UN7 := Lib.hid hun7; have AT7 := Lib.hid hat7; have U7 := Lib.hid hu7; have NE0 := Lib.hid (And.intro hne0 hpp0)
            have RUN7 : Hid (Calls Tryd.prog 31 #[.pointer (some ⟨pp2, 0, none⟩)] w7 fun e w2 => e = .returned (.agg #[.int .u64 (f2 : Int), .int .u64 (s2 : Int), .int .i64 (n2 : Int)]) ∧ OSg C sp p g I5 c L7 X7 w2 ∧ Below w7.heap.size w7 w2) := Lib.hid (hh.run m1)
            have c07 : w7.cell? ⟨op2, 0, none⟩ = some (.pointer (some ⟨pp2, 0, none⟩)) := hh.c0 m1
            have RS : ∀ w, (Instr.field 68 (.agg #[.int .u64 (f2 : Int), .int .u64 (s2 : Int), .int .i64 (n2 : Int)]) 1).run Tryd.prog w = .ok (.int .u64 (s2 : Int)) w := run_s f2 s2 (n2 : Int)
            obtain ⟨c1, hc1e⟩ : ∃ c1, (cb + 1) % 256 = c1 := ⟨_, rfl⟩
            have hc1b : c1 ≤ 255 := by omega
            have wc : IntKind.u8.wrap ((cb : Int) + 1) = (c1 : Int) := by
              rw [← hc1e]; simp [IntKind.wrap, IntKind.bits, IntKind.signed]
            clear hh ha hu gX2 hl2 hkp7 hso7 m1 m07 hun7 hat7 hu7 hX7 AL cW hc1e hne0 hpp0
            go_wp2_with fail
            refine RUN7.out.mono ?_; rintro e w8 ⟨rfl, hh, hb8⟩
            have OS8 := Lib.hid hh
            have U8 := Lib.hid (U7.out.trans ((updFalse_of hb8).mono (T := SO p g I5 X5) fun _ x => x.elim))
            clear hh hb8 c07
            have fl := (OS8.out.grew ((Below.refl _ w8).alloc (Nat.le_refl _) (.cells #[.int .u8 (c1 : Int)] 5))).fill M1.out (x := f2) (by have := fresh_blk (f := f2) (s := s2) (n := n2) (i := 0) (j := 1) (by omega) hn2; rw [Nat.zero_mul] at this; exact this) (by have := (fresh_out (f := f2) (s := s2) (n := n2) (i := 0) (j := 1) (by omega) (by omega)).1; rw [Nat.zero_mul] at this; exact this) (by have := (fresh_out (f := f2) (s := s2) (n := n2) (i := 0) (j := 1) (by omega) (by omega)).2; rw [Nat.zero_mul] at this; exact this) (one8 w8 5 c1 _ rfl) hc1b
            have FL := Lib.hid fl
            clear fl
            go_wp2_with fail
            refine FL.out.mono ?_; rintro e w9 ⟨rfl, M9, hh, _, hoff, hu9⟩
            have gX7 := OS7.out.sg.good
            have hl7 := OS7.out.sg.len
            have hmul : s2 ≤ n2 * s2 := Nat.le_mul_of_pos_left _ hn2
            have hkp9 : Kept M9 17408 s cb 3 := kept_far gX7 hl7 M07.out M1.out NE0.out.1 ⟨rfl, rfl, rfl⟩ sc3 (by omega) KP7.out fun q n' hq hx => hoff q n' hq (by
              have hx' : q + n' ≤ f2 ∨ f2 + n2 * s2 ≤ q := hx
              show q + n' ≤ f2 ∨ f2 + s2 ≤ q
              omega)
            have OS9 := Lib.hid hh; have KP9 := Lib.hid hkp9
            have U9 := Lib.hid (U8.out.trans (((Upd.refl (SO p g I5 X5) w8).alloc (.cells #[.int .u8 (c1 : Int)] 5)).trans (hu9.mono fun b hb => (SO7.out b).1 hb)))
            have c09 : w9.cell? ⟨op2, 0, none⟩ = some (.pointer (some ⟨pp2, 0, none⟩)) := hh.c0 M1.out
            have fr := (hh.grew ((Below.refl _ w9).alloc (Nat.le_refl _) (.cells #[.int .u64 (f2 : Int)] 28))).free M1.out (a := some ⟨w9.heap.size, 0, none⟩) (cap := 1) (x := f2) (Seq.new (E := Elem.u64s) w9 _ [f2] 1) (fun b hb x => by
              have hbe : b = w9.heap.size := by cases hb; rfl
              have := hh.sg.lt x
              omega) (by have := fresh_blk (f := f2) (s := s2) (n := n2) (i := 0) (j := 1) (by omega) hn2; rw [Nat.zero_mul] at this; exact this) (by have := (fresh_out (f := f2) (s := s2) (n := n2) (i := 0) (j := 1) (by omega) (by omega)).1; rw [Nat.zero_mul] at this; exact this) (by have := (fresh_out (f := f2) (s := s2) (n := n2) (i := 0) (j := 1) (by omega) (by omega)).2; rw [Nat.zero_mul] at this; exact this) (Nat.le_refl 1)
            have FR := Lib.hid fr
            have HMUL := Lib.hid hmul
            clear hh hoff hu9 gX7 hl7 hkp9 fr FL hmul
            go_wp2_with fail
            refine FR.out.mono ?_; rintro e w10 ⟨rfl, L10, hh, ha, hu⟩
            have hkp10 : Kept L10 17408 s cb 3 := kept_far OS9.out.sg.good OS9.out.sg.len M07.out M1.out NE0.out.1 ⟨rfl, rfl, rfl⟩ sc3 (by omega) KP9.out fun q n' hq hx => ha.part hq fun y hy => by
              have hx' : q + n' ≤ f2 ∨ f2 + n2 * s2 ≤ q := hx
              have := HMUL.out
              rw [List.mem_singleton.1 hy]
              omega
            have hso10 : ∀ b, SO p g I5 (X7.put pp2 (P3 f2 s2 n2)) b ↔ SO p g I5 X5 b := fun b => SO.put.trans (SO7.out b)
            have m010 : oP op pp (cc : Int) wd 17408 s nn 3 ∈ (X7.put pp2 (P3 f2 s2 n2)).L := put_stay (o := ⟨op2, pp2, cls2, lo2, wd2, fresh f2 s2 n2 1⟩) M07.out NE0.out.2
            have hun10 : ∀ q, t + 1 ≤ q → (X7.put pp2 (P3 f2 s2 n2)).L[q]? = X5.L[q]? := fun q hq => (put_other (o := ⟨op2, pp2, cls2, lo2, wd2, fresh f2 s2 n2 1⟩) OS7.out.sg.pps AT7.out (by omega)).trans (UN7.out q hq)
            have hu10 := U9.out.trans (((Upd.refl (SO p g I5 X5) w9).alloc (.cells #[.int .u64 (f2 : Int)] 28)).trans (hu.mono fun b hb => (SO7.out b).1 hb))
            have NX : Hid (R2 w C sp p g I5 c X5 (oP op pp (cc : Int) wd 17408 s nn 3) 17408 s cb w6 k (.int .i64 ((t + 1 : Nat) : Int)) w10) := Lib.hid ⟨t + 1, L10, _, by omega, rfl, hh, hun10, m010, hso10, hkp10, hu10⟩
            rw [ej] at NX
            clear hh ha hu hkp10 hso10 m010 hun10 hu10 c09 FR
            go_wp2
            go_roundw
            case rel => exact NX.out
            case measure => simp [intOf]; omega
        · obtain rfl : t = k := by omega
          have t1 : decide ((t : Int) < (t : Int)) = false := decide_eq_false (by omega)
          have hv := V6.out.upd U2.out FAR5.out
          have V := Lib.hid hv
          clear hv
          obtain ⟨w11, hw11⟩ : ∃ x, x = wr := ⟨_, rfl⟩
          subst hw11
          have K0 := Lib.hid (show R3 w11 (.int .i64 0) w11 from ⟨0, by omega, rfl, Below.refl _ _⟩)
          go_wp2
          go_loopw [144] (fun i w' => R3 w11 i w') (fun i _ => 3 - (intOf i).toNat)
          case atStart => exact K0.out
          case round =>
            clear K0
            obtain ⟨y, hy, rfl, hb⟩ := hrel
            have OS3 := Lib.hid (OS2.out.grew hb)
            have B3 := Lib.hid hb
            have c0 : wr.cell? ⟨op, 0, none⟩ = some (.pointer (some ⟨pp, 0, none⟩)) := OS3.out.c0 M0.out
            have RUN3 : Hid (Calls Tryd.prog 31 #[.pointer (some ⟨pp, 0, none⟩)] wr fun e w2 => e = .returned (.agg #[.int .u64 17408, .int .u64 (s : Int), .int .i64 (nn : Int)]) ∧ OSg C sp p g I5 c L2 X2 w2 ∧ Below wr.heap.size wr w2) := Lib.hid (OS3.out.run M0.out)
            have RS : ∀ w, (Instr.field 68 (.agg #[.int .u64 17408, .int .u64 (s : Int), .int .i64 (nn : Int)]) 1).run Tryd.prog w = .ok (.int .u64 (s : Int)) w := run_s 17408 s (nn : Int)
            by_cases hy3 : y < 3
            · have t1 : decide ((y : Int) < 3) = true := decide_eq_true (by omega)
              have hys : y * s ≤ 3 * s := Nat.mul_le_mul_right s (by omega)
              obtain ⟨x, hx⟩ : ∃ x, 17408 + y * s = x := ⟨_, rfl⟩
              have hxe : (news 17408 s 0 3)[y]? = some x := by rw [news_get hy3, Nat.zero_add, hx]
              obtain ⟨b, off, ea, hcell⟩ := (V.out.upd (updFalse_of hb) fun _ _ => id).seq.elem hxe
              have d0 : wr.cell? ⟨b, off + y, none⟩ = some (.int .u64 (x : Int)) := by
                have h0 := hcell 0 (.int .u64 (x : Int)) rfl
                simpa [Elem.u64s] using h0
              subst ea
              have p0 : (0 : Int) ≤ (y : Int) := by omega
              have p1 : (y : Int) < 3 := by omega
              have ej : (((y + 1 : Nat)) : Int) = (y : Int) + 1 := by omega
              have hpart : MemMath.part L2 x s = MemMath.rep s cb := by rw [← hx]; exact KP2.out y hy3
              have hfit : x + s ≤ L2.length := by rw [OS2.out.sg.len]; omega
              have HP := Lib.hid hpart; have HFIT := Lib.hid hfit
              clear hcell hxe hx hys hpart hfit hb
              go_wp2_with fail
              refine RUN3.out.mono ?_; rintro e w12 ⟨rfl, hh, hb12⟩
              have B12 := Lib.hid (below_then B3.out B3.out.size hb12)
              have hgot := get_ok hh.sg.mem x s HFIT.out
              rw [HP.out] at hgot
              unfold Got at hgot
              have hrl : (MemMath.rep s cb).length = s := MemMath.length_rep ..
              rw [hrl] at hgot
              have GOT := Lib.hid hgot
              clear hh hb12 hgot hrl c0 d0
              go_wp2_with fail
              refine GOT.out.mono ?_; rintro e w13 ⟨b2, z, rfl, hby, hb2, hu13⟩
              have B13 := Lib.hid (below_then B12.out B12.out.size (hu13.below (fun _ h => h.elim) (Nat.le_refl _)))
              have BY := Lib.hid hby
              have K4 := Lib.hid (show R4 w13 s (.int .i64 0) w13 from ⟨0, by omega, rfl, Below.refl _ _⟩)
              clear hby hb2 hu13 GOT
              go_wp2
              go_loopw [164] (fun i w' => R4 w13 s i w') (fun i _ => s - (intOf i).toNat)
              case atStart => exact K4.out
              case round =>
                clear K4
                obtain ⟨v, hv, rfl, hb⟩ := hrel
                have B4 := Lib.hid hb
                by_cases hvs : v < s
                · have t3 : decide ((v : Int) < (s : Int)) = true := decide_eq_true (by omega)
                  have t3' : decide (v < s) = true := decide_eq_true hvs
                  have q0 : (0 : Int) ≤ (v : Int) := by omega
                  have q1 : (v : Int) < (s : Int) := by omega
                  have ev : (((v + 1 : Nat)) : Int) = (v : Int) + 1 := by omega
                  have hl : v < (MemMath.rep s cb ++ List.replicate z 0).length := by rw [List.length_append, MemMath.length_rep]; omega
                  have hget : (MemMath.rep s cb ++ List.replicate z 0).getD v 0 = cb := by
                    rw [List.getD_eq_getElem?_getD, List.getElem?_append_left (by rw [MemMath.length_rep]; exact hvs), ← List.getD_eq_getElem?_getD]
                    unfold MemMath.rep
                    simp [List.getD_eq_getElem?_getD, hvs]
                  have d1 : wr.cell? ⟨b2, v, none⟩ = some (.int .u8 (cb : Int)) := by
                    have := (BY.out.upd (updFalse_of hb) id).cell v hl
                    rw [hget] at this; exact this
                  have t4 : ((cb : Int) != (cb : Int)) = false := by simp
                  clear hl hget hb
                  go_wp2
                  go_roundw
                  case rel => exact ⟨v + 1, by omega, by rw [ev], B4.out⟩
                  case measure => simp [intOf]; omega
                · obtain rfl : v = s := by omega
                  have t3 : decide ((v : Int) < (v : Int)) = false := decide_eq_false (by omega)
                  clear hb
                  go_wp2
                  go_roundw
                  case rel => exact ⟨y + 1, by omega, by rw [ej], below_then B13.out B13.out.size B4.out⟩
                  case measure => simp [intOf]; omega
            · obtain rfl : y = 3 := by omega
              have t1 : decide ((3 : Int) < 3) = false := by decide
              have HU : Hid (Calls Tryd.prog 41 #[.pointer (some ⟨pp, 0, none⟩)] wr fun e w2 => e = .returned (.int .i64 3) ∧ OSg C sp p g I5 c L2 X2 w2 ∧ Below wr.heap.size wr w2) := Lib.hid (OS3.out.used M0.out)
              clear hb RUN3 RS
              go_wp2_with fail
              refine HU.out.mono ?_; rintro e w12 ⟨rfl, hh, _⟩
              have H12 := Lib.hid hh
              clear hh c0
              go_wp2
              go_ret
              exact ⟨rfl, H12.out.below⟩
end Go.Proofs.YtomepdgddpajoaaDoor.segWrites
