/- LedgerApart: the walk. (Written by genapart15.py.) -/
import Derived.Test.YtklblmodpkhjnaaLaw15
namespace Go.Proofs.Ytklblmodpkhjnaa.ledgerApart
open Go.RowKit LedMath
set_option linter.unusedVariables false

def endA (L : List En) : Nat → Nat
  | 0 => 0
  | j + 1 => match L[j]? with
    | some e => e.z
    | none => 0
theorem endA_le {L : List En} (h : GoodL L) {j : Nat} {e : En} (he : L[j]? = some e) : endA L j ≤ e.a := by
  cases j with
  | zero => exact Nat.zero_le _
  | succ i =>
    obtain ⟨f, hf⟩ : ∃ f, L[i]? = some f := ⟨_, List.getElem?_eq_getElem (by have := (List.getElem?_eq_some_iff.1 he).1; omega)⟩
    have := List.pairwise_iff_getElem.1 h.apart i (i + 1) (List.getElem?_eq_some_iff.1 hf).1 (List.getElem?_eq_some_iff.1 he).1 (Nat.lt_succ_self _)
    rw [(List.getElem?_eq_some_iff.1 hf).2, (List.getElem?_eq_some_iff.1 he).2] at this
    simp only [endA, hf]
    exact this
theorem endA_next {L : List En} {j : Nat} {e : En} (he : L[j]? = some e) : endA L (j + 1) = e.z := by simp only [endA, he]
theorem met_next {L : List En} {j : Nat} {e : En} (he : L[j]? = some e) (A y : Nat) : (decide (0 < y) && metL (L.take (j + 1)) A y) = ((decide (0 < y) && metL (L.take j) A y) || (decide (0 < y) && decide (A < e.z) && decide (e.a < A + y))) := by
  unfold metL
  rw [List.take_add_one, he, List.any_append]
  simp only [Option.toList_some, List.any_cons, List.any_nil, Bool.or_false]
  cases decide (0 < y) <;> cases decide (A < e.z) <;> cases decide (e.a < A + y) <;> simp
def LoopR (w : World) (L : List En) (A y : Nat) (m v i : Value) (wr : World) : Prop :=
  ∃ j : Nat, j ≤ L.length ∧ i = .int .i64 (j : Int) ∧ v = .int .u64 ((endA L j : Nat) : Int) ∧ m = .bool (decide (0 < y) && metL (L.take j) A y) ∧ Below w.heap.size w wr
theorem free_met {L : List En} {A y : Nat} (h : A + y ≤ 18446744073709551616) : freeL L A y = !(decide (0 < y) && metL L A y) := by
  unfold freeL
  by_cases h0 : y = 0
  · subst h0; simp
  · rw [decide_eq_false h0, decide_eq_true h, decide_eq_true (show 0 < y by omega)]; simp
set_option maxRecDepth 100000 in
set_option maxHeartbeats 4000000 in
theorem walk_nat (w : World) {a : Option Addr} {n cap : Nat} (len : Nat) (F : Nat → Nat → Value) (h : Recs w (.slice a n cap) ActL15 len F) (x y : Nat) (hx : x ≤ 4294967295) (hy : y ≤ 65535) :
    Calls Try.prog 4 #[.slice a n cap, .int .u32 (x : Int), .int .u16 (y : Int)] w fun e w' => e = .returned (.bool true) ∧ Below w.heap.size w w' := by
  obtain ⟨A, hA⟩ : ∃ A, x % 1048576 = A := ⟨_, rfl⟩
  have d1 : (x : Int) % 1048576 = (A : Int) := by omega
  have d2 : Int.tmod (x : Int) 1048576 = (A : Int) := by rw [← hA]; exact (Int.ofNat_tmod _ _).symm
  have w1 : IntKind.u64.wrap (x : Int) = (x : Int) := u64_in _ ⟨by omega, by omega⟩
  have w2 : IntKind.u64.wrap (y : Int) = (y : Int) := u64_in _ ⟨by omega, by omega⟩
  have hA1 : A < 1048576 := by omega
  have AL := Lib.hid (alive_any w)
  have GR := Lib.hid (fun w' hw => great_any w h w' hw)
  have FI := Lib.hid (fun w' hw => filled_any w h w' hw)
  clear h
  go_enter Try.func4, Try.ntmps4
  go_wp2_with fail
  refine AL.out.mono ?_; rintro e w1 ⟨rfl, hb⟩
  have B1 := Lib.hid hb
  clear hb
  go_wp2_with fail
  refine (GR.out w1 B1.out).mono ?_; rintro e w2 ⟨gr, rfl, hb⟩
  have B2 := Lib.hid (below_then B1.out B1.out.size hb)
  clear hb
  cases gr
  rotate_left
  · go_wp2_with fail
    go_ret
    exact ⟨rfl, B2.out⟩
  go_wp2_with fail
  refine (FI.out w2 B2.out).mono ?_; rintro e w3 ⟨lb, L, rfl, ho⟩
  have O3 := Lib.hid ho
  clear ho AL GR FI
  have KA := Lib.hid (All_any w3 O3.out.led)
  go_wp2_with fail
  refine KA.out.mono ?_; rintro e w4 ⟨v, rfl, hv, hin, hb⟩
  have O4 := Lib.hid (O3.out.grew hb)
  obtain ⟨av, cv, ev, _, _⟩ := hv.slice'
  obtain ⟨N, hN⟩ : ∃ N, L.length = N := ⟨_, rfl⟩
  rw [List.length_map, hN] at ev
  subst ev
  have HN := Lib.hid hN
  have HV := Lib.hid hv.seq
  have GD := Lib.hid O3.out.led.good
  have hNb : N ≤ 1048576 := by rw [← hN]; exact GD.out.len
  have I0 := Lib.hid (show LoopR w4 L A y (.bool false) (.int .u64 0) (.int .i64 0) w4 from ⟨0, Nat.zero_le _, rfl, rfl, by simp [metL], Below.refl _ _⟩)
  clear hv hin hb hN hA hx KA O3
  go_wp2
  go_loopw [10, 11, 29] (fun m v i wr => LoopR w4 L A y m v i wr) (fun _ _ i _ => N - (intOf i).toNat)
  case atStart => exact I0.out
  case round =>
    clear I0
    obtain ⟨j, hj, rfl, rfl, rfl, hb⟩ := hrel
    rw [HN.out] at hj
    have B := Lib.hid hb
    by_cases hjn : j < N
    · have t2 : decide (j < N) = true := decide_eq_true hjn
      have t2' : decide ((j : Int) < (N : Int)) = true := decide_eq_true (by omega)
      obtain ⟨e, he⟩ : ∃ e, L[j]? = some e := ⟨_, List.getElem?_eq_getElem (by rw [HN.out]; exact hjn)⟩
      obtain ⟨b, off, ea', k0, k1, k2⟩ := (HV.out.below (Nat.le_refl _) hb).blk (i := j) (x := e.b) (by rw [List.getElem?_map, he]; rfl)
      subst ea'
      have q3 : (0 : Int) ≤ (j : Int) := by omega
      have q4 : (j : Int) < (N : Int) := by omega
      have hm := List.mem_of_getElem? he
      have hmay := GD.out.may e hm
      have hle := endA_le GD.out he
      have hz1 := GD.out.lt hm
      have NX := Lib.hid (endA_next he)
      have mn := met_next he A y
      obtain ⟨z, hz⟩ : ∃ z, e.z = z := ⟨_, rfl⟩
      obtain ⟨ea, hea⟩ : ∃ ea, e.a = ea := ⟨_, rfl⟩
      obtain ⟨en, hen⟩ : ∃ en, e.n = en := ⟨_, rfl⟩
      obtain ⟨eg, heg⟩ : ∃ eg, e.g = eg := ⟨_, rfl⟩
      obtain ⟨dj, hdj⟩ : ∃ dj, endA L j = dj := ⟨_, rfl⟩
      obtain ⟨m0, hm0⟩ : ∃ m0, (decide (0 < y) && metL (L.take j) A y) = m0 := ⟨_, rfl⟩
      obtain ⟨s, hs⟩ : ∃ s, A + y = s := ⟨_, rfl⟩
      have ez : z = ea + max en 1 := by rw [← hz, ← hea, ← hen]; rfl
      have me : ∀ r, (m0 || (decide (0 < y) && decide (A < z) && decide (ea < s))) = r → (decide (0 < y) && metL (L.take (j + 1)) A y) = r := fun r hr => by rw [mn, hm0, hz, hea, hs]; exact hr
      rw [hm0, hdj]
      rw [hz] at NX
      rw [show e.b.1 = ea from hea] at k0
      rw [show e.b.2.1 = en from hen] at k1
      rw [show e.b.2.2 = eg from heg] at k2
      rw [hea, hen, heg] at hmay
      rw [hea, hdj] at hle
      rw [hz] at hz1
      have hg0 := may_pos hmay
      obtain ⟨_, _, hrem⟩ := may_p2 hmay
      have r1 : (ea : Int) % (eg : Int) = 0 := by rw [← Int.natCast_emod, hrem]; rfl
      have r2 : Int.tmod (ea : Int) (eg : Int) = 0 := by rw [← Int.ofNat_tmod, hrem]; rfl
      have q5 : ¬ ((eg : Int) = 0) := by omega
      have t3 : decide (ea < dj) = false := decide_eq_false (by omega)
      have t4 : decide ((1048576 : Int) < (z : Int)) = false := decide_eq_false (by omega)
      have s1 : (A : Int) + (y : Int) = (s : Int) := by omega
      have s2 : IntKind.u64.wrap (s : Int) = (s : Int) := u64_in _ ⟨by omega, by omega⟩
      have s3 : IntKind.u64.wrap (z : Int) = (z : Int) := u64_in _ ⟨by omega, by omega⟩
      clear hb he hm hmay hle mn hz hea hen heg hdj hm0 hs hrem hg0 hz1
      by_cases hn1 : (1 : Int) ≤ (en : Int)
      · have sz : (ea : Int) + (en : Int) = (z : Int) := by omega
        clear ez
        cases m0
        · by_cases hk : 0 < y
          · have t6 : decide ((0 : Int) < (y : Int)) = true := decide_eq_true (by omega)
            have t6' : decide (0 < y) = true := decide_eq_true hk
            by_cases hAz : A < z
            · have t7 : decide (A < z) = true := decide_eq_true hAz
              by_cases hes : ea < s
              · have t8 : decide (ea < s) = true := decide_eq_true hes
                have ME := Lib.hid (me true (by rw [t6', t7, t8]; rfl))
                clear me hk hAz hes
                go_wp2_with fail
                go_roundw
                case rel => exact ⟨j + 1, by rw [HN.out]; omega, by go_num, by rw [NX.out], by rw [ME.out], B.out.alloc B.out.size _⟩
                case measure => simp [intOf] <;> omega
              · have t8 : decide (ea < s) = false := decide_eq_false hes
                have ME := Lib.hid (me false (by rw [t6', t7, t8]; rfl))
                clear me hk hAz hes
                go_wp2_with fail
                go_roundw
                case rel => exact ⟨j + 1, by rw [HN.out]; omega, by go_num, by rw [NX.out], by rw [ME.out], B.out.alloc B.out.size _⟩
                case measure => simp [intOf] <;> omega
            · have t7 : decide (A < z) = false := decide_eq_false hAz
              have ME := Lib.hid (me false (by rw [t6', t7]; rfl))
              clear me hk hAz
              go_wp2_with fail
              go_roundw
              case rel => exact ⟨j + 1, by rw [HN.out]; omega, by go_num, by rw [NX.out], by rw [ME.out], B.out.alloc B.out.size _⟩
              case measure => simp [intOf] <;> omega
          · have t6 : decide ((0 : Int) < (y : Int)) = false := decide_eq_false (by omega)
            have t6' : decide (0 < y) = false := decide_eq_false hk
            have ME := Lib.hid (me false (by rw [t6']; rfl))
            clear me hk
            go_wp2_with fail
            go_roundw
            case rel => exact ⟨j + 1, by rw [HN.out]; omega, by go_num, by rw [NX.out], by rw [ME.out], B.out.alloc B.out.size _⟩
            case measure => simp [intOf] <;> omega
        · have ME := Lib.hid (me true rfl)
          clear me
          go_wp2_with fail
          go_roundw
          case rel => exact ⟨j + 1, by rw [HN.out]; omega, by go_num, by rw [NX.out], by rw [ME.out], B.out.alloc B.out.size _⟩
          case measure => simp [intOf] <;> omega
      · have sz : (ea : Int) + 1 = (z : Int) := by omega
        clear ez
        cases m0
        · by_cases hk : 0 < y
          · have t6 : decide ((0 : Int) < (y : Int)) = true := decide_eq_true (by omega)
            have t6' : decide (0 < y) = true := decide_eq_true hk
            by_cases hAz : A < z
            · have t7 : decide (A < z) = true := decide_eq_true hAz
              by_cases hes : ea < s
              · have t8 : decide (ea < s) = true := decide_eq_true hes
                have ME := Lib.hid (me true (by rw [t6', t7, t8]; rfl))
                clear me hk hAz hes
                go_wp2_with fail
                go_roundw
                case rel => exact ⟨j + 1, by rw [HN.out]; omega, by go_num, by rw [NX.out], by rw [ME.out], B.out.alloc B.out.size _⟩
                case measure => simp [intOf] <;> omega
              · have t8 : decide (ea < s) = false := decide_eq_false hes
                have ME := Lib.hid (me false (by rw [t6', t7, t8]; rfl))
                clear me hk hAz hes
                go_wp2_with fail
                go_roundw
                case rel => exact ⟨j + 1, by rw [HN.out]; omega, by go_num, by rw [NX.out], by rw [ME.out], B.out.alloc B.out.size _⟩
                case measure => simp [intOf] <;> omega
            · have t7 : decide (A < z) = false := decide_eq_false hAz
              have ME := Lib.hid (me false (by rw [t6', t7]; rfl))
              clear me hk hAz
              go_wp2_with fail
              go_roundw
              case rel => exact ⟨j + 1, by rw [HN.out]; omega, by go_num, by rw [NX.out], by rw [ME.out], B.out.alloc B.out.size _⟩
              case measure => simp [intOf] <;> omega
          · have t6 : decide ((0 : Int) < (y : Int)) = false := decide_eq_false (by omega)
            have t6' : decide (0 < y) = false := decide_eq_false hk
            have ME := Lib.hid (me false (by rw [t6']; rfl))
            clear me hk
            go_wp2_with fail
            go_roundw
            case rel => exact ⟨j + 1, by rw [HN.out]; omega, by go_num, by rw [NX.out], by rw [ME.out], B.out.alloc B.out.size _⟩
            case measure => simp [intOf] <;> omega
        · have ME := Lib.hid (me true rfl)
          clear me
          go_wp2_with fail
          go_roundw
          case rel => exact ⟨j + 1, by rw [HN.out]; omega, by go_num, by rw [NX.out], by rw [ME.out], B.out.alloc B.out.size _⟩
          case measure => simp [intOf] <;> omega
    · obtain rfl : j = N := by omega
      have t2 : decide (j < j) = false := decide_eq_false hjn
      have t2' : decide ((j : Int) < (j : Int)) = false := decide_eq_false (by omega)
      have O5 := Lib.hid (O4.out.grew hb)
      have KF := Free_any _ O5.out.led (a := A) (n := y) (by unfold U64B; omega) (by unfold U64B; omega)
      rw [free_met (by omega)] at KF
      have eL : L.take j = L := List.take_of_length_le (by rw [HN.out]; exact Nat.le_refl _)
      rw [eL]
      obtain ⟨m, hm⟩ : ∃ m, (decide (0 < y) && metL L A y) = m := ⟨_, rfl⟩
      rw [hm] at KF ⊢
      have KF := Lib.hid KF
      clear hb hjn hm eL
      go_wp2_with fail
      refine KF.out.mono ?_; rintro e w5 ⟨rfl, hb⟩
      have O6 := Lib.hid (O5.out.grew hb)
      clear hb
      go_wp2_with fail
      go_ret
      exact ⟨by cases m <;> rfl, below_then B2.out B2.out.size O6.out.below⟩
theorem walk (w : World) {a : Option Addr} {n cap : Nat} (len : Nat) (F : Nat → Nat → Value) (h : Recs w (.slice a n cap) ActL15 len F) (x : Int) (hx : (Lit.int .u32 x).wf = true) (y : Int) (hy : (Lit.int .u16 y).wf = true) :
    Calls Try.prog 4 #[.slice a n cap, .int .u32 x, .int .u16 y] w fun e w' => e = .returned (.bool true) ∧ Below w.heap.size w w' := by
  have b1 : 0 ≤ x ∧ x ≤ 4294967295 := by simp [Lit.wf, IntKind.min, IntKind.max, IntKind.signed, IntKind.bits] at hx; omega
  have b2 : 0 ≤ y ∧ y ≤ 65535 := by simp [Lit.wf, IntKind.min, IntKind.max, IntKind.signed, IntKind.bits] at hy; omega
  obtain ⟨x, rfl⟩ := Int.eq_ofNat_of_zero_le b1.1
  obtain ⟨y, rfl⟩ := Int.eq_ofNat_of_zero_le b2.1
  exact walk_nat w len F h x y (by omega) (by omega)
end Go.Proofs.Ytklblmodpkhjnaa.ledgerApart
