/- The law ArenaBack's own functions: sum, lowest. An arena beside whatever else there is. -/
import Derived.Test.YtnkahcfkbpbhiaaArena6
import Derived.Test.YtnkahcfkbpbhiaaReads
namespace Go.Proofs.Ytnkahcfkbpbhiaa
open Go.RowKit ArenaMath
set_option linter.unusedVariables false

section
variable {wr w w' : World} {q : Nat} {own : Nat → Prop} {s s' : St}
theorem Became.grew (h : Became wr q own s w) (k : Below w.heap.size w w') : Became wr q own s w' := by
  obtain ⟨⟨own', h, hi⟩, u⟩ := h
  exact ⟨⟨own', h.grew k, hi⟩, u.trans ((updFalse_of k).mono (fun _ x => x.elim))⟩
theorem Became.drew (h : Became wr q own s w) : Became wr q own s w.drew := by
  obtain ⟨⟨own', h, hi⟩, u⟩ := h
  exact ⟨⟨own', h.drew, hi⟩, u.drew⟩
theorem Became.step {own' : Nat → Prop} (hi : ∀ k, own' k → own k ∨ wr.heap.size ≤ k) (u : Upd own wr w) (h : Became w q own' s' w') : Became wr q own s' w' := by
  obtain ⟨⟨own2, h, hj⟩, v⟩ := h
  refine ⟨⟨own2, h, fun k hk => ?_⟩, u.step v hi⟩
  rcases hj k hk with h | h
  · exact hi k h
  · exact .inr (Nat.le_trans u.size h)
theorem Became.release (h : Became wr q own s w) (a : Int) : Calls Try.prog 12 #[.pointer (some ⟨q, 0, none⟩), .int .i64 a] w fun e w' => e = .returned (.int .i64 (ArenaMath.release s a).1) ∧ Became wr q own (ArenaMath.release s a).2 w' := by
  obtain ⟨⟨own', h, hi⟩, u⟩ := h
  exact (release_any h a).mono fun e w' k => ⟨k.1, Became.step hi u k.2⟩
theorem Became.reserve (h : Became wr q own s w) (n : Int) (hr : s.r ≤ 1000000000000) : Calls Try.prog 16 #[.pointer (some ⟨q, 0, none⟩), .int .i64 n] w fun e w' => e = .returned (.tuple #[.int .i64 (ArenaMath.reserve s n).1, .int .i64 (ArenaMath.reserve s n).2.1]) ∧ Became wr q own (ArenaMath.reserve s n).2.2 w' := by
  obtain ⟨⟨own', h, hi⟩, u⟩ := h
  exact (reserve_any h n hr).mono fun e w' k => ⟨k.1, Became.step hi u k.2⟩
theorem Became.given (h : Became wr q own s w) : Calls Try.prog 20 #[.pointer (some ⟨q, 0, none⟩)] w fun e w' => e = .returned (.int .i64 (total s.l : Int)) ∧ Became wr q own s w' := by
  have hS := h
  obtain ⟨⟨own', h, hi⟩, u⟩ := h
  exact (given_any h).mono fun e w' k => ⟨k.1, hS.grew k.2⟩
theorem Became.regions (h : Became wr q own s w) : Calls Try.prog 23 #[.pointer (some ⟨q, 0, none⟩)] w fun e w' => (∃ a cap, e = .returned (.slice a s.l.length cap)) ∧ Became wr q own s w' := by
  have hS := h
  obtain ⟨⟨own', h, hi⟩, u⟩ := h
  refine (regions_any h).mono ?_
  rintro e w' ⟨v, rfl, hu, _, k⟩
  obtain ⟨a, cap, rfl, _, _⟩ := hu.shape
  exact ⟨⟨a, cap, rfl⟩, hS.grew k⟩
end

/-! ### sum -/
def Summing (w : World) (v : Value) (l : List (Nat × Nat)) (sm i : Value) (wr : World) : Prop :=
  ∃ j : Nat, j ≤ l.length ∧ sm = .int .i64 ((total (l.take j) : Nat) : Int) ∧ i = .int .i64 (j : Int) ∧ Vec Elem.pairs wr v l ∧ Below w.heap.size w wr
theorem take_total {l : List (Nat × Nat)} {j : Nat} {x : Nat × Nat} (h : l[j]? = some x) : total (l.take (j + 1)) = total (l.take j) + x.2 := by
  rw [List.take_add_one, h, total_append]; simp [total]
theorem take_total_le (l : List (Nat × Nat)) (j : Nat) : total (l.take j) ≤ total l := by
  have : total l = total (l.take j) + total (l.drop j) := by rw [← total_append, List.take_append_drop]
  omega
theorem Vec.below {α : Type} {E : Elem α} {w w' : World} {v : Value} {l : List α} (h : Vec E w v l) {B : Nat} (hB : w.heap.size ≤ B) (hb : Below B w w') : Vec E w' v l :=
  h.upd (updFalse_of (hb.mono hB)) (fun _ _ => id)
theorem sum_any (w : World) (a : Option Addr) (cap : Nat) (l : List (Nat × Nat)) (hv : Vec Elem.pairs w (.slice a l.length cap) l) (ht : total l ≤ 1000) (hl : l.length ≤ 1000) :
    Calls Try.prog 24 #[.slice a l.length cap] w fun e w' => e = .returned (.int .i64 ((total l : Nat) : Int)) ∧ Below w.heap.size w w' := by
  have V := Lib.hid hv
  have HT := Lib.hid ht
  clear hv ht
  go_enter Try.func24, Try.ntmps24
  go_wp2
  go_loopw [3, 8] (fun sm i wr => Summing w (.slice a l.length cap) l sm i wr) (fun sm i _ => l.length - (intOf i).toNat)
  case atStart => exact ⟨0, Nat.zero_le _, rfl, rfl, V.out, Below.refl _ _⟩
  case round =>
    obtain ⟨j, hj, rfl, rfl, hv, hb⟩ := hrel
    have V2 := Lib.hid hv; have B2 := Lib.hid hb
    have sr := hb.size
    clear hv hb
    by_cases hjl : j < l.length
    · obtain ⟨⟨x1, x2⟩, hx⟩ : ∃ x, l[j]? = some x := ⟨l[j], List.getElem?_eq_getElem hjl⟩
      obtain ⟨b2, off2, rfl, hcell⟩ := V2.out.seq.elem hx
      have d0 := hcell 0 (.int .i64 (x1 : Int)) rfl
      have d1 := hcell 1 (.int .i64 (x2 : Int)) rfl
      simp only [Elem.pairs, Nat.add_zero] at d0 d1
      have hst := take_total hx
      have hle := take_total_le l (j + 1)
      have h1 := HT.out
      obtain ⟨sm, hsm⟩ : ∃ sm, total (l.take j) = sm := ⟨_, rfl⟩
      rw [hsm] at hst ⊢
      simp only at hst
      have b1 : sm ≤ 1000 := by omega
      have b2 : x2 ≤ 1000 := by omega
      have HS := Lib.hid hst
      clear hx hcell hst hsm hle h1
      go_wp2
      go_roundw
      case rel => exact ⟨j + 1, by omega, by rw [HS.out]; go_num, by go_num, V2.out.alloc _, B2.out.alloc sr _⟩
      case measure => simp [intOf]; omega
    · obtain rfl : j = l.length := by omega
      have e0 : l.take l.length = l := List.take_length
      rw [e0]
      clear e0
      go_wp2
      go_ret
      exact ⟨rfl, B2.out⟩

/-! ### lowest -/
def meetsBut (l : List (Nat × Nat)) (x : Nat × Nat) (a j : Nat) : Bool := (l.take j).any (fun r => !decide (r.1 = x.1 ∧ r.2 = x.2) && (decide (a < r.1 + r.2) && decide (r.1 < a + x.2)))
theorem meetsBut_zero (l : List (Nat × Nat)) (x : Nat × Nat) (a : Nat) : meetsBut l x a 0 = false := by simp [meetsBut]
theorem meetsBut_step {l : List (Nat × Nat)} {x : Nat × Nat} {a j : Nat} {r : Nat × Nat} (h : l[j]? = some r) : meetsBut l x a (j + 1) = (meetsBut l x a j || (!decide (r.1 = x.1 ∧ r.2 = x.2) && (decide (a < r.1 + r.2) && decide (r.1 < a + x.2)))) := by
  unfold meetsBut
  rw [List.take_add_one, h, List.any_append]
  simp
theorem meetsBut_all {S : Nat} {l : List (Nat × Nat)} {x : Nat × Nat} {a : Nat} (ho : Ok S l) (hx : x ∈ l) : meetsBut l x a l.length = false ↔ clear (del l x.1) a x.2 := by
  unfold meetsBut clear
  rw [List.take_length, List.any_eq_false]
  constructor
  · intro h r hr hm
    obtain ⟨hr, hne⟩ := mem_del.1 hr
    refine h r hr ?_
    simp [hm.1, hm.2, hne]
  · intro h r hr hm
    simp only [Bool.and_eq_true, Bool.not_eq_true', decide_eq_true_eq, decide_eq_false_iff_not] at hm
    refine h r (mem_del.2 ⟨hr, fun e => hm.1 ?_⟩) hm.2
    have := ho.one hr hx e
    rw [this]; exact ⟨rfl, rfl⟩
/-- Where it stands, it meets none of the others. -/
theorem clear_self {S : Nat} {l : List (Nat × Nat)} {x : Nat × Nat} (ho : Ok S l) (hx : x ∈ l) : clear (del l x.1) x.1 x.2 := by
  intro r hr hm
  obtain ⟨hr, hne⟩ := mem_del.1 hr
  rcases ho.apart hr hx with h | h | h
  · rw [h] at hne; exact hne rfl
  · omega
  · omega
def Seeking (w : World) (v : Value) (l : List (Nat × Nat)) (x : Nat × Nat) (bb : Nat) (i : Value) (wr : World) : Prop :=
  ∃ a : Nat, a ≤ x.1 ∧ i = .int .i64 (a : Int) ∧ (∀ b, b < a → ¬ clear (del l x.1) b x.2) ∧ Vec Elem.pairs wr v l ∧ Blk wr bb 49 #[.int .i64 (x.1 : Int), .int .i64 (x.2 : Int)] ∧ Below w.heap.size w wr
def Trying (w : World) (v : Value) (l : List (Nat × Nat)) (x : Nat × Nat) (bb a : Nat) (mt i : Value) (wr : World) : Prop :=
  ∃ j : Nat, j ≤ l.length ∧ mt = .bool (meetsBut l x a j) ∧ i = .int .i64 (j : Int) ∧ Vec Elem.pairs wr v l ∧ Blk wr bb 49 #[.int .i64 (x.1 : Int), .int .i64 (x.2 : Int)] ∧ Below w.heap.size w wr
set_option maxHeartbeats 1000000 in
theorem lowest_any (w : World) (va : Option Addr) (cap : Nat) (l : List (Nat × Nat)) (hv : Vec Elem.pairs w (.slice va l.length cap) l) (ho : Ok 64 l) (x1 x2 : Nat) (hx : (x1, x2) ∈ l) (hl : l.length ≤ 1000) :
    Calls Try.prog 25 #[.slice va l.length cap, .agg #[.int .i64 (x1 : Int), .int .i64 (x2 : Int)]] w fun e w' => ∃ a : Nat, e = .returned (.int .i64 (a : Int)) ∧ spot 64 (del l x1) x2 = some a ∧ a ≤ x1 ∧ Below w.heap.size w w' := by
  have hxo := ho.2 _ hx
  simp only at hxo
  have V := Lib.hid hv; have OK := Lib.hid ho; have HX := Lib.hid hx
  have hx2 : x2 ≤ 64 := by omega
  have hx1 : x1 ≤ 64 := by omega
  clear hv ho hx
  obtain ⟨bb, hbb⟩ : ∃ bb, w.heap.size = bb := ⟨_, rfl⟩
  have HBB := Lib.hid hbb
  have hbx : Blk (w.alloc (.cells #[.int .i64 (x1 : Int), .int .i64 (x2 : Int)] 49)) bb 49 #[.int .i64 (x1 : Int), .int .i64 (x2 : Int)] := by rw [← hbb]; exact Blk.new w _ _
  have BX := Lib.hid hbx
  clear hbx
  go_enter Try.func25, Try.ntmps25
  go_wp2
  go_loopw [5] (fun i wr => Seeking w (.slice va l.length cap) l (x1, x2) bb i wr) (fun i _ => x1 + 1 - (intOf i).toNat)
  case atStart => exact ⟨0, Nat.zero_le _, rfl, fun b hb => by omega, V.out.alloc _, BX.out, (Below.refl _ w).alloc (Nat.le_refl _) _⟩
  case round =>
    obtain ⟨a, ha, rfl, hno, hv, hbk, hb⟩ := hrel
    have V2 := Lib.hid hv; have B2 := Lib.hid hb; have NO := Lib.hid hno; have K2 := Lib.hid hbk
    simp only at ha
    clear hv hb hno hbk
    go_wp2
    go_loopw [6, 13] (fun mt i wr => Trying w (.slice va l.length cap) l (x1, x2) bb a mt i wr) (fun mt i _ => l.length - (intOf i).toNat)
    case atStart => exact ⟨0, Nat.zero_le _, by rw [meetsBut_zero], rfl, V2.out, K2.out, B2.out⟩
    case round =>
      obtain ⟨j, hj, rfl, rfl, hv, hbk, hb⟩ := hrel
      have V3 := Lib.hid hv; have B3 := Lib.hid hb; have K3 := Lib.hid hbk
      have sr := hb.size
      clear hv hb hbk
      by_cases hjl : j < l.length
      · obtain ⟨⟨y1, y2⟩, hy⟩ : ∃ x, l[j]? = some x := ⟨l[j], List.getElem?_eq_getElem hjl⟩
        obtain ⟨b2, off2, rfl, hcell⟩ := V3.out.seq.elem hy
        have d0 := hcell 0 (.int .i64 (y1 : Int)) rfl
        have d1 := hcell 1 (.int .i64 (y2 : Int)) rfl
        simp only [Elem.pairs, Nat.add_zero] at d0 d1
        have k0 : (wr.alloc (.cells #[.int .i64 (y1 : Int), .int .i64 (y2 : Int)] 49)).cell? ⟨bb, 0, none⟩ = some (.int .i64 (x1 : Int)) := (K3.out.alloc _).cell 0
        have k1 : (wr.alloc (.cells #[.int .i64 (y1 : Int), .int .i64 (y2 : Int)] 49)).cell? ⟨bb, 1, none⟩ = some (.int .i64 (x2 : Int)) := (K3.out.alloc _).cell 1
        have hym := OK.out.2 (y1, y2) (List.mem_of_getElem? hy)
        simp only at hym
        have hy1 : y1 ≤ 64 := by omega
        have hy2 : y2 ≤ 64 := by omega
        have hst := meetsBut_step (x := (x1, x2)) (a := a) hy
        simp only at hst
        obtain ⟨c0, hc0⟩ : ∃ c0, meetsBut l (x1, x2) a j = c0 := ⟨_, rfl⟩
        rw [hc0] at hst ⊢
        cases c0 with
        | true =>
          have HS := Lib.hid hst
          clear hst hc0 hcell hym hy
          go_wp2
          go_roundw
          case rel => exact ⟨j + 1, by omega, by rw [HS.out]; rfl, by go_num, V3.out.alloc _, K3.out.alloc _, B3.out.alloc sr _⟩
          case measure => simp [intOf]; omega
        | false =>
          by_cases he : y1 = x1
          · have he2 := OK.out.one (List.mem_of_getElem? hy) HX.out he
            injection he2 with _ he2
            subst he
            subst he2
            have HS : Hid (meetsBut l (y1, y2) a (j + 1) = false) := Lib.hid (by rw [hst]; simp)
            clear hst hc0 hcell hym hy
            go_wp2
            go_roundw
            case rel => exact ⟨j + 1, by omega, by rw [HS.out], by go_num, V3.out.alloc _, K3.out.alloc _, B3.out.alloc sr _⟩
            case measure => simp [intOf]; omega
          · have hne : ¬ ((y1 : Int) = (x1 : Int)) := by omega
            obtain ⟨p1, hp1⟩ : ∃ p1, decide (a < y1 + y2) = p1 := ⟨_, rfl⟩
            obtain ⟨p2, hp2⟩ : ∃ p2, decide (y1 < a + x2) = p2 := ⟨_, rfl⟩
            rw [hp1, hp2, show decide (y1 = x1 ∧ y2 = x2) = false from decide_eq_false (fun h => he h.1)] at hst
            have q1 : decide ((a : Int) < (y1 : Int) + (y2 : Int)) = p1 := by rw [← hp1]; exact decide_eq_decide.2 (by omega)
            have q2 : decide ((y1 : Int) < (a : Int) + (x2 : Int)) = p2 := by rw [← hp2]; exact decide_eq_decide.2 (by omega)
            have HS := Lib.hid hst
            clear hst hc0 hcell hym hy hp1 hp2 he
            cases p1 with
            | true =>
              go_wp2
              go_roundw
              case rel => exact ⟨j + 1, by omega, by rw [HS.out]; first | rfl | simp [q2], by go_num, V3.out.alloc _, K3.out.alloc _, B3.out.alloc sr _⟩
              case measure => simp [intOf]; omega
            | false =>
              clear q2
              go_wp2
              go_roundw
              case rel => exact ⟨j + 1, by omega, by rw [HS.out]; rfl, by go_num, V3.out.alloc _, K3.out.alloc _, B3.out.alloc sr _⟩
              case measure => simp [intOf]; omega
      · obtain rfl : j = l.length := by omega
        have hall := meetsBut_all (a := a) OK.out HX.out
        obtain ⟨c0, hc0⟩ : ∃ c0, meetsBut l (x1, x2) a l.length = c0 := ⟨_, rfl⟩
        rw [hc0] at hall ⊢
        have HA := Lib.hid hall
        clear hall hc0
        cases c0 with
        | true =>
          have hlt : a < x1 := by
            rcases Nat.lt_or_ge a x1 with h | h
            · exact h
            · obtain rfl : a = x1 := by omega
              have := HA.out.2 (clear_self OK.out HX.out)
              cases this
          go_wp2
          go_roundw
          case rel => exact ⟨a + 1, by simp only; omega, by go_num, (fun b hb => by
            rcases Nat.lt_or_ge b a with h | h
            · exact NO.out b h
            · obtain rfl : b = a := by omega
              intro hc
              have := HA.out.2 hc
              cases this), V3.out, K3.out, B3.out⟩
          case measure => simp [intOf]; omega
        | false =>
          go_wp2
          go_ret
          exact ⟨a, rfl, spot_of hxo.1 (by omega) (HA.out.1 (by simp)) NO.out, ha, by first | exact B3.out | (have := B3.out; rwa [HBB.out] at this)⟩
end Go.Proofs.Ytnkahcfkbpbhiaa
