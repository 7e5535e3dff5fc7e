/- The document's own page (allotmentref09): Back, Post, Gather: contracts. -/
import Derived.Test.YtlnlipjnljbegaaRefP9
import Derived.Deep.DeepCutAuto
import Derived.Deep.CutBlock
namespace Go.Proofs.Ytlnlipjnljbegaa
open Go.RowKit ListMath PageMath GeoMath
set_option linter.unusedVariables false

theorem vec_oneAt (w : World) (t : TypeId) (x g : Nat) (hg : g = w.heap.size) : Vec Elem.u64s (w.alloc (.cells #[.int .u64 (x : Int)] t)) (.slice (some ⟨g, 0, none⟩) 1 1) [x] := by
  subst hg
  exact Vec.row (Blk.new w t _) [x] 1 (Nat.le_refl _) (by simp [maxLen]) (by simp [Elem.u64s]) (by simp [Elem.u64s, Elem.all])
theorem vec_newAt9 (w : World) (t : TypeId) (g : Nat) (hg : g = w.heap.size) : Vec Elem.u64s (w.alloc (.cells #[] t)) (.slice (some ⟨g, 0, none⟩) 0 0) [] := by subst hg; exact Vec.new w t
theorem rw_fresh {A : Nat → Prop} {w : World} {q b1 : Nat} {a : Option Addr} {cap : Nat} {l : List Nat} (hv : Vec Elem.u64s w (.slice a l.length cap) l) (h1 : l.length ≤ cap) (h2 : cap ≤ 9223372036854775807) (hin : ∀ j, In (.slice a l.length cap) j → b1 ≤ j) (hA : ∀ b, A b → b < b1) (hq : q < b1) : Rw (fun b => A b ∨ b = q) w a cap l :=
  ⟨hv.seq, h1, h2, fun b hb => ⟨fun x => by
    have h3 := hin b hb
    rcases x with x | x
    · have := hA b x; omega
    · omega, hv.lt hb⟩⟩
theorem in_at9 {g n c k : Nat} (h : In (.slice (some ⟨g, 0, none⟩) n c) k) : g = k := in_blk h
set_option maxHeartbeats 2000000 in
theorem refp_back (w : World) {A : Nat → Prop} {q : Nat} {S : PG} {P : List Nat} (h : RP A w q S P) (f : FitP S) (a : Nat) (ha : U64B a) (hg : givenE S a = 0) (hu : 0 < S.used) (hA : ∀ b, A b → b < w.heap.size) :
    Calls Try.prog 49 #[.pointer (some ⟨q, 0, none⟩), .int .u64 (a : Int)] w fun e w' => e = .returned (.int .i64 0) ∧ RP A w' q { S with G := a :: S.G, used := S.used - 1 } P ∧ Upd (fun b => b = q) w w' := by
  obtain ⟨i0, hi, hz0, hz1, hz2⟩ := info_parts infoU64
  have GV := Lib.hid (refp_given w h f a ha)
  rw [hg] at GV
  have hlG := f.lG; have husb := f.used
  have HA := Lib.hid hA; have HQ := Lib.hid h.nq
  have hqw := h.lt
  clear h hA
  go_enter Try.func49, Try.ntmps49
  go_wp2_with fail
  refine GV.out.mono ?_; rintro e w1 ⟨rfl, hr, hb⟩
  obtain ⟨aF, cF, aG, cG, aP, cP, k, rF, rG, rP⟩ := hr.out
  have B1 := Lib.hid hb
  obtain ⟨nG, hnG⟩ : ∃ n, S.G.length = n := ⟨_, rfl⟩
  obtain ⟨us, hus⟩ : ∃ n, S.used = n := ⟨_, rfl⟩
  obtain ⟨u1, hu1⟩ : ∃ n, S.used - 1 = n := ⟨_, rfl⟩
  have NG := Lib.hid hnG; have US := Lib.hid hus; have U1 := Lib.hid hu1
  have e1 : (us : Int) - 1 = (u1 : Int) := by omega
  have hu1b : u1 ≤ 1000000 := by omega
  have tu : ((us : Int) == 0) = false := by rw [beq_eq_false_iff_ne]; omega
  have c4 : w1.cell? ⟨q, 4, none⟩ = some (.int .i64 (us : Int)) := by rw [← hus]; exact k.cell 4
  have c6a : (w1.alloc (.cells #[.int .u64 (a : Int)] 22)).cell? ⟨q, 6, none⟩ = some (.slice aG nG cG) := by rw [← hnG]; exact (k.alloc _).cell 6
  obtain ⟨b1, hb1⟩ : ∃ b, w1.heap.size = b := ⟨_, rfl⟩
  have hqb : q < b1 := by rw [← hb1]; exact k.lt
  have VN := Lib.hid (vec_oneAt w1 22 a b1 hb1.symm)
  have SL : Seq Elem.u64s (w1.alloc (.cells #[.int .u64 (a : Int)] 22)) (.slice aG nG cG) S.G := by rw [← hnG]; exact rG.1.alloc _
  have SL := Lib.hid SL
  have KK := Lib.hid k; have RF := Lib.hid rF; have RG := Lib.hid rG; have RPP := Lib.hid rP; have HB1 := Lib.hid hb1
  rw [hnG] at hlG
  clear hr hb k rF rG rP hnG hus hu1
  go_wp2_with (at_builtin; first
    | (refine wpList_append_vec (E := Elem.u64s) rfl (.tmp 19) (.tmp 23) 38 rfl 22 i0 (.int .u64 0) 8 Try.underlying38 hi hz0 hz1 hz2 rfl (.slice (some ⟨b1, 0, none⟩) 1 1) (.slice aG nG cG) [a] S.G rfl rfl VN.out SL.out ?_ ?_ ?_
       · rw [NG.out]; simp only [maxLen, List.length_cons, List.length_nil]; omega
       · rw [NG.out]; simp only [List.length_cons, List.length_nil]; omega
       intro v2 w2 hv2 hu2 hin2
       have B2 : Hid (Below b1 w1 w2) := Lib.hid (((Below.refl _ w1).alloc (Nat.le_of_eq HB1.out.symm) _).trans (hu2.below (fun j hj => by rw [← in_at9 hj]; exact Nat.le_refl _) (by rw [World.size_alloc, HB1.out]; exact Nat.le_succ _)))
       have N2 : Hid (∀ j, In v2 j → b1 ≤ j) := Lib.hid (fun j hj => by rcases hin2 j hj with x | x; (rw [← in_at9 x]; exact Nat.le_refl _); (rw [World.size_alloc, HB1.out] at x; omega))
       obtain ⟨a3, cap3, rfl, hc1, hc2⟩ := hv2.slice'
       have V2 := Lib.hid hv2
       have B2' : Below w1.heap.size w1 w2 := by rw [HB1.out]; exact B2.out
       have K2 := Lib.hid (KK.out.grew B2')
       have d6 : w2.cell? ⟨q, 6, none⟩ = some (.slice aG nG cG) := by rw [← NG.out]; exact K2.out.cell 6
       have g6 : w2.frozen? ⟨q, 6, none⟩ = false := K2.out.frozen 6
       have d4 : w2.cell? ⟨q, 4, none⟩ = some (.int .i64 (us : Int)) := by rw [← US.out]; exact K2.out.cell 4
       have g4 : w2.frozen? ⟨q, 4, none⟩ = false := K2.out.frozen 4
       clear hv2 hu2 hin2 c4 c6a B2'))
  go_ret
  have u0 : Upd (fun b => b = q) w w1 := (updFalse_of B1.out).mono fun _ h => h.elim
  have u2 : Upd (fun b => b = q) w1 w2 := (updFalse_of (by rw [HB1.out]; exact B2.out)).mono fun _ h => h.elim
  have u3 : Upd (fun b => b = q) w2 ((w2.setCell ⟨q, 6, none⟩ (.slice a3 (S.G.length + 1) cap3)).setCell ⟨q, 4, none⟩ (.int .i64 (u1 : Int))) := ((Upd.refl (fun b => b = q) w2).setCell (p := ⟨q, 6, none⟩) (.inl rfl) _).setCell (p := ⟨q, 4, none⟩) (.inl rfl) _
  have k2 := (K2.out.put 6 (.slice a3 (S.G.length + 1) cap3)).put 4 (.int .i64 (u1 : Int))
  have W := u2.trans u3
  have hAb : ∀ b, A b → b < b1 := fun b hb => by have h1 := HA.out b hb; have h2 := B1.out.size; have h3 := HB1.out; omega
  have rG' : Rw (fun b => A b ∨ b = q) w2 a3 cap3 (a :: S.G) := rw_fresh V2.out hc1 hc2 N2.out hAb hqb
  refine ⟨rfl, ⟨⟨aF, cF, a3, cap3, aP, cP, ?_, RF.out.upd W (fun _ h => Or.inr h), rG'.upd u3 (fun _ h => Or.inr h), RPP.out.upd W (fun _ h => Or.inr h)⟩, HQ.out⟩, u0.trans W⟩
  rw [← U1.out] at k2 ⊢
  exact k2
set_option maxHeartbeats 2000000 in
theorem refp_post (w : World) {A : Nat → Prop} {q : Nat} {S : PG} {P : List Nat} (h : RP A w q S P) (f : FitP S) (hP : P.length ≤ 1024) (a tag : Nat) (ha : U64B a) (ht : U64B tag) (hA : ∀ b, A b → b < w.heap.size) :
    Calls Try.prog 50 #[.pointer (some ⟨q, 0, none⟩), .int .u64 (a : Int), .int .u64 (tag : Int)] w fun e w' => e = .returned (.bool (postP S a tag).2) ∧ RP A w' q (postP S a tag).1 (if tag = S.ct then a :: P else P) ∧ Upd (fun b => b = q) w w' := by
  obtain ⟨i0, hi, hz0, hz1, hz2⟩ := info_parts infoU64
  have hcab := f.ca; have hctb := f.ct
  obtain ⟨aF, cF, aG, cG, aP, cP, k, rF, rG, rP⟩ := h.out
  have HA := Lib.hid hA; have HQ := Lib.hid h.nq
  have hqw := h.lt
  obtain ⟨nP, hnP⟩ : ∃ n, P.length = n := ⟨_, rfl⟩
  obtain ⟨ca, hca⟩ : ∃ n, S.ca = n := ⟨_, rfl⟩
  obtain ⟨ct, hct⟩ : ∃ n, S.ct = n := ⟨_, rfl⟩
  obtain ⟨ca1, hca1⟩ : ∃ n, ca + 1 = n := ⟨_, rfl⟩
  obtain ⟨ct1, hct1⟩ : ∃ n, ct + 1 = n := ⟨_, rfl⟩
  have NP := Lib.hid hnP; have CA := Lib.hid hca; have CT := Lib.hid hct; have CA1 := Lib.hid hca1; have CT1 := Lib.hid hct1
  have e9 : (ca : Int) + 1 = (ca1 : Int) := by omega
  have e8 : (ct : Int) + 1 = (ct1 : Int) := by omega
  have hb9 : ca1 ≤ 1000001 := by omega
  have hb8 : ct1 ≤ 1000001 := by omega
  have c9 : w.cell? ⟨q, 9, none⟩ = some (.int .i64 (ca : Int)) := by rw [← hca]; exact k.cell 9
  have f9 : w.frozen? ⟨q, 9, none⟩ = false := k.frozen 9
  have k1 := k.put 9 (.int .i64 (ca1 : Int))
  have u1 : Upd (fun b => b = q) w (w.setCell ⟨q, 9, none⟩ (.int .i64 (ca1 : Int))) := (Upd.refl (fun b => b = q) w).setCell (p := ⟨q, 9, none⟩) (.inl rfl) _
  obtain ⟨W1, hW1⟩ : ∃ W1, w.setCell ⟨q, 9, none⟩ (.int .i64 (ca1 : Int)) = W1 := ⟨_, rfl⟩
  have HW1 := Lib.hid hW1
  rw [hW1] at k1 u1
  have rF1 := rF.upd u1 (fun _ h => Or.inr h); have rG1 := rG.upd u1 (fun _ h => Or.inr h); have rP1 := rP.upd u1 (fun _ h => Or.inr h)
  have c8 : W1.cell? ⟨q, 8, none⟩ = some (.int .u64 (ct : Int)) := by rw [← hct]; exact k1.cell 8
  have K1 := Lib.hid k1; have U1 := Lib.hid u1; have RF := Lib.hid rF1; have RG := Lib.hid rG1; have RPP := Lib.hid rP1
  rw [hct]
  by_cases hgt : tag = ct
  · have hpp : postP S a tag = (S.wrote a, true) := by unfold postP; rw [hct, if_pos hgt]
    rw [hpp, if_pos hgt]
    have t1 : ((tag : Int) != (ct : Int)) = false := by rw [hgt]; simp
    have c7a : (W1.alloc (.cells #[.int .u64 (a : Int)] 22)).cell? ⟨q, 7, none⟩ = some (.slice aP nP cP) := by rw [← hnP]; exact (k1.alloc _).cell 7
    obtain ⟨b1, hb1⟩ : ∃ b, W1.heap.size = b := ⟨_, rfl⟩
    have hqb : q < b1 := by rw [← hb1]; exact k1.lt
    have VN := Lib.hid (vec_oneAt W1 22 a b1 hb1.symm)
    have SL : Seq Elem.u64s (W1.alloc (.cells #[.int .u64 (a : Int)] 22)) (.slice aP nP cP) P := by rw [← hnP]; exact rP1.1.alloc _
    have SL := Lib.hid SL
    have HB1 := Lib.hid hb1
    rw [hnP] at hP
    clear h hA k rF rG rP hnP hca hct hca1 hct1 k1 u1 hW1 rF1 rG1 rP1 hgt hpp
    go_enter Try.func50, Try.ntmps50
    go_upto_region 2 with fail
    rw [HW1.out]
    go_wp2_with (at_builtin; first
      | (refine wpList_append_vec (E := Elem.u64s) rfl (.tmp 22) (.tmp 26) 38 rfl 22 i0 (.int .u64 0) 8 Try.underlying38 hi hz0 hz1 hz2 rfl (.slice (some ⟨b1, 0, none⟩) 1 1) (.slice aP nP cP) [a] P rfl rfl VN.out SL.out ?_ ?_ ?_
         · rw [NP.out]; simp only [maxLen, List.length_cons, List.length_nil]; omega
         · rw [NP.out]; simp only [List.length_cons, List.length_nil]; omega
         intro v2 w2 hv2 hu2 hin2
         have B2 : Hid (Below b1 W1 w2) := Lib.hid (((Below.refl _ W1).alloc (Nat.le_of_eq HB1.out.symm) _).trans (hu2.below (fun j hj => by rw [← in_at9 hj]; exact Nat.le_refl _) (by rw [World.size_alloc, HB1.out]; exact Nat.le_succ _)))
         have N2 : Hid (∀ j, In v2 j → b1 ≤ j) := Lib.hid (fun j hj => by rcases hin2 j hj with x | x; (rw [← in_at9 x]; exact Nat.le_refl _); (rw [World.size_alloc, HB1.out] at x; omega))
         obtain ⟨a3, cap3, rfl, hc1, hc2⟩ := hv2.slice'
         have V2 := Lib.hid hv2
         have B2' : Below W1.heap.size W1 w2 := by rw [HB1.out]; exact B2.out
         have K2 := Lib.hid (K1.out.grew B2')
         have d7 : w2.cell? ⟨q, 7, none⟩ = some (.slice aP nP cP) := by rw [← NP.out]; exact K2.out.cell 7
         have g7 : w2.frozen? ⟨q, 7, none⟩ = false := K2.out.frozen 7
         have d8 : w2.cell? ⟨q, 8, none⟩ = some (.int .u64 (ct : Int)) := by rw [← CT.out]; exact K2.out.cell 8
         have g8 : w2.frozen? ⟨q, 8, none⟩ = false := K2.out.frozen 8
         clear hv2 hu2 hin2 c7a c8 B2'))
    go_ret
    have u2 : Upd (fun b => b = q) W1 w2 := (updFalse_of (by rw [HB1.out]; exact B2.out)).mono fun _ h => h.elim
    have u3 : Upd (fun b => b = q) w2 ((w2.setCell ⟨q, 7, none⟩ (.slice a3 (P.length + 1) cap3)).setCell ⟨q, 8, none⟩ (.int .u64 (ct1 : Int))) := ((Upd.refl (fun b => b = q) w2).setCell (p := ⟨q, 7, none⟩) (.inl rfl) _).setCell (p := ⟨q, 8, none⟩) (.inl rfl) _
    have k2 := (K2.out.put 7 (.slice a3 (P.length + 1) cap3)).put 8 (.int .u64 (ct1 : Int))
    have W := u2.trans u3
    have hAb : ∀ b, A b → b < b1 := fun b hb => by have h1 := HA.out b hb; have h2 := U1.out.size; have h3 := HB1.out; omega
    have rP' : Rw (fun b => A b ∨ b = q) w2 a3 cap3 (a :: P) := rw_fresh V2.out hc1 hc2 N2.out hAb hqb
    refine ⟨rfl, ⟨⟨aF, cF, aG, cG, a3, cap3, ?_, RF.out.upd W (fun _ h => Or.inr h), RG.out.upd W (fun _ h => Or.inr h), rP'.upd u3 (fun _ h => Or.inr h)⟩, HQ.out⟩, U1.out.trans W⟩
    rw [← CT1.out, ← CA1.out, ← CT.out, ← CA.out] at k2
    rw [← CT1.out, ← CT.out]
    exact k2
  · have hpp : postP S a tag = (S.asked, false) := by unfold postP; rw [hct, if_neg hgt]
    rw [hpp, if_neg hgt]
    have t1 : ((tag : Int) != (ct : Int)) = true := by rw [bne_iff_ne]; omega
    clear h hA k rF rG rP hnP hca hct hca1 hct1 k1 u1 hW1 rF1 rG1 rP1 hgt hpp
    go_enter Try.func50, Try.ntmps50
    go_upto_region 2 with fail
    rw [HW1.out]
    go_wp2
    go_ret
    have k2 := K1.out
    rw [← CA1.out, ← CA.out] at k2
    exact ⟨rfl, ⟨⟨aF, cF, aG, cG, aP, cP, k2, RF.out, RG.out, RPP.out⟩, HQ.out⟩, U1.out⟩
/-- Behind the row's store. -/
def Gath9 (W1 : World) (q : Nat) (P G : List Nat) (wx : World) : Prop :=
  ∃ a3 cap3 x2, wx = x2.setCell ⟨q, 6, none⟩ (.slice a3 (P.length + G.length) cap3) ∧ Below W1.heap.size W1 x2 ∧ Vec Elem.u64s x2 (.slice a3 (P ++ G).length cap3) (P ++ G) ∧ (P ++ G).length ≤ cap3 ∧ cap3 ≤ 9223372036854775807 ∧ ∀ k, In (.slice a3 (P ++ G).length cap3) k → W1.heap.size ≤ k
theorem fresh_append {A : Nat → Prop} {W1 x : World} {b1 : Nat} (hb : Below b1 W1 x) (hs : W1.heap.size = b1) : Below W1.heap.size W1 x := by rw [hs]; exact hb
set_option maxRecDepth 100000 in
set_option maxHeartbeats 2000000 in
theorem refp_gather (w : World) {A : Nat → Prop} {q : Nat} {S : PG} {P : List Nat} (h : RP A w q S P) (f : FitP S) (hP : P.length ≤ S.used) (hA : ∀ b, A b → b < w.heap.size) :
    Calls Try.prog 16 #[.pointer (some ⟨q, 0, none⟩)] w fun e w' => e = .returned (.int .i64 (P.length : Int)) ∧ RP A w' q (gathP S P) [] ∧ Upd (fun b => b = q) w w' := by
  obtain ⟨i0, hi, hz0, hz1, hz2⟩ := info_parts infoU64
  have hcab := f.ca; have hctb := f.ct; have hlG := f.lG; have husb := f.used
  obtain ⟨aF, cF, aG, cG, aP, cP, k, rF, rG, rP⟩ := h.out
  have HA := Lib.hid hA; have HQ := Lib.hid h.nq
  have hqw := h.lt
  obtain ⟨nP, hnP⟩ : ∃ n, P.length = n := ⟨_, rfl⟩
  obtain ⟨nG, hnG⟩ : ∃ n, S.G.length = n := ⟨_, rfl⟩
  obtain ⟨us, hus⟩ : ∃ n, S.used = n := ⟨_, rfl⟩
  obtain ⟨u1, hu1⟩ : ∃ n, us - nP = n := ⟨_, rfl⟩
  obtain ⟨ca, hca⟩ : ∃ n, S.ca = n := ⟨_, rfl⟩
  obtain ⟨ct, hct⟩ : ∃ n, S.ct = n := ⟨_, rfl⟩
  obtain ⟨ca1, hca1⟩ : ∃ n, ca + 1 = n := ⟨_, rfl⟩
  obtain ⟨ct1, hct1⟩ : ∃ n, ct + 1 = n := ⟨_, rfl⟩
  have NP := Lib.hid hnP; have NG := Lib.hid hnG; have US := Lib.hid hus; have UX := Lib.hid hu1; have CA := Lib.hid hca; have CT := Lib.hid hct; have CA1 := Lib.hid hca1; have CT1 := Lib.hid hct1
  have e9 : (ca : Int) + 1 = (ca1 : Int) := by omega
  have e8 : (ct : Int) + 1 = (ct1 : Int) := by omega
  have e4 : (us : Int) - (nP : Int) = (u1 : Int) := by omega
  have hb9 : ca1 ≤ 1000001 := by omega
  have hb8 : ct1 ≤ 1000001 := by omega
  have hb4 : u1 ≤ 1000000 := by omega
  have c9 : w.cell? ⟨q, 9, none⟩ = some (.int .i64 (ca : Int)) := by rw [← hca]; exact k.cell 9
  have f9 : w.frozen? ⟨q, 9, none⟩ = false := k.frozen 9
  have k1 := k.put 9 (.int .i64 (ca1 : Int))
  have u1' : Upd (fun b => b = q) w (w.setCell ⟨q, 9, none⟩ (.int .i64 (ca1 : Int))) := (Upd.refl (fun b => b = q) w).setCell (p := ⟨q, 9, none⟩) (.inl rfl) _
  obtain ⟨W1, hW1⟩ : ∃ W1, w.setCell ⟨q, 9, none⟩ (.int .i64 (ca1 : Int)) = W1 := ⟨_, rfl⟩
  have HW1 := Lib.hid hW1
  rw [hW1] at k1 u1'
  have rF1 := rF.upd u1' (fun _ h => Or.inr h); have rG1 := rG.upd u1' (fun _ h => Or.inr h); have rP1 := rP.upd u1' (fun _ h => Or.inr h)
  have d7 : W1.cell? ⟨q, 7, none⟩ = some (.slice aP nP cP) := by rw [← hnP]; exact k1.cell 7
  have d6 : W1.cell? ⟨q, 6, none⟩ = some (.slice aG nG cG) := by rw [← hnG]; exact k1.cell 6
  have g6 : W1.frozen? ⟨q, 6, none⟩ = false := k1.frozen 6
  have ka := k1.alloc (.cells #[] 22)
  have d7a : (W1.alloc (.cells #[] 22)).cell? ⟨q, 7, none⟩ = some (.slice aP nP cP) := by rw [← hnP]; exact ka.cell 7
  have d6a : (W1.alloc (.cells #[] 22)).cell? ⟨q, 6, none⟩ = some (.slice aG nG cG) := by rw [← hnG]; exact ka.cell 6
  have g6a : (W1.alloc (.cells #[] 22)).frozen? ⟨q, 6, none⟩ = false := ka.frozen 6
  obtain ⟨b1, hb1⟩ : ∃ b, W1.heap.size = b := ⟨_, rfl⟩
  have hqb : q < b1 := by rw [← hb1]; exact k1.lt
  have SQ : Hid (∀ x, Below W1.heap.size W1 x → Seq Elem.u64s x (.slice aP nP cP) P ∧ Seq Elem.u64s x (.slice aG nG cG) S.G) := Lib.hid fun x hb => by
    refine ⟨?_, ?_⟩
    · rw [← hnP]; exact rP1.1.below (Nat.le_refl _) hb
    · rw [← hnG]; exact rG1.1.below (Nat.le_refl _) hb
  have K1 := Lib.hid k1; have U1 := Lib.hid u1'; have RF := Lib.hid rF1; have HB1 := Lib.hid hb1
  rw [hnG] at hlG
  rw [hnP, hus] at hP
  have len1 : P.length ≤ 1000000 := by omega
  have len2 : S.G.length ≤ 1000000 := by omega
  have LN1 := Lib.hid len1; have LN2 := Lib.hid len2
  clear h hA k rF rG rP hnP hnG hus hu1 hca hct hca1 hct1 k1 u1' hW1 rF1 rG1 rP1 len1 len2 hb1
  rw [NP.out]
  go_enter Try.func16, Try.ntmps16
  go_upto_region 2 with fail
  rw [HW1.out]
  clear c9 f9
  go_upto_region 3 with fail
  go_cut [3] (fun s wx => s = .int .i64 (nP : Int) ∧ Gath9 W1 q P S.G wx)
  case first =>
    go_region_law
      (first
        | (refine step_append_vec (E := Elem.u64s) rfl (.tmp 17) (.tmp 21) 38 rfl 22 i0 (.int .u64 0) 8 Try.underlying38 hi hz0 hz1 hz2 rfl (.slice (some ⟨W1.heap.size, 0, none⟩) 0 0) (.slice aP nP cP) [] P ?_ ?_ ?_ ?_ ?_ ?_ ?_
           · go_simp
           · go_simp
           · first | exact vec_newAt9 W1 _ _ rfl | exact (vec_newAt9 W1 _ _ rfl).drew | exact vec_newAt9 W1.drew _ _ rfl
           · first | exact (SQ.out _ ((Below.refl _ W1).alloc (Nat.le_refl _) _)).1 | exact (SQ.out _ ((Below.refl _ W1).alloc (Nat.le_refl _) _).drew).1 | exact (SQ.out _ ((Below.refl _ W1).drew.alloc (Nat.le_refl _) _)).1
           · have := LN1.out; simp only [maxLen, List.length_nil]; omega
           · have := LN1.out; simp only [List.length_nil]; omega
           intro v1 x1 hv1 hu1 hin1
           have B2 : Hid (Below W1.heap.size W1 x1) := Lib.hid (by
             refine Below.trans ?_ (hu1.below (B := W1.heap.size) (fun k hk => by have := in_at9 hk; omega) ?_)
             · first | exact (Below.refl _ W1).alloc (Nat.le_refl _) _ | exact ((Below.refl _ W1).alloc (Nat.le_refl _) _).drew | exact (Below.refl _ W1).drew.alloc (Nat.le_refl _) _
             · first | exact ((Below.refl _ W1).alloc (Nat.le_refl _) _).size | exact ((Below.refl _ W1).drew.alloc (Nat.le_refl _) _).size)
           have N2 : Hid (∀ k, In v1 k → W1.heap.size ≤ k) := Lib.hid (fun k hk => by rcases hin1 k hk with x | x; (have := in_at9 x; omega); (simp at x; omega))
           have V2 := Lib.hid hv1
           have K2 := Lib.hid (K1.out.grew B2.out)
           have d7 : x1.cell? ⟨q, 7, none⟩ = some (.slice aP nP cP) := by rw [← NP.out]; exact K2.out.cell 7
           have d6 : x1.cell? ⟨q, 6, none⟩ = some (.slice aG nG cG) := by rw [← NG.out]; exact K2.out.cell 6
           have g6 : x1.frozen? ⟨q, 6, none⟩ = false := K2.out.frozen 6
           clear hv1 hu1 hin1)
        | (refine step_append_vec (E := Elem.u64s) rfl (.tmp 22) (.tmp 26) 38 rfl 22 i0 (.int .u64 0) 8 Try.underlying38 hi hz0 hz1 hz2 rfl v1 (.slice aG nG cG) ([] ++ P) S.G ?_ ?_ V2.out (SQ.out _ B2.out).2 ?_ ?_ ?_
           · go_simp
           · go_simp
           · have := LN1.out; have := LN2.out; simp only [maxLen, List.nil_append]; omega
           · have := LN1.out; have := LN2.out; simp only [List.nil_append]; omega
           intro v2 x2 hv2 hu2 hin2
           rw [List.nil_append] at hv2
           have B3 := Lib.hid (Below.trans B2.out (hu2.below N2.out B2.out.size))
           have N3 : Hid (∀ k, In v2 k → W1.heap.size ≤ k) := Lib.hid (fun k hk => by rcases hin2 k hk with x | x; exact N2.out k x; exact Nat.le_trans B2.out.size x)
           obtain ⟨a3, cap3, rfl, hc1, hc2⟩ := hv2.slice'
           have V3 := Lib.hid hv2
           have K3 := Lib.hid (K1.out.grew B3.out)
           have d7 : x2.cell? ⟨q, 7, none⟩ = some (.slice aP nP cP) := by rw [← NP.out]; exact K3.out.cell 7
           have d6 : x2.cell? ⟨q, 6, none⟩ = some (.slice aG nG cG) := by rw [← NG.out]; exact K3.out.cell 6
           have g6 : x2.frozen? ⟨q, 6, none⟩ = false := K3.out.frozen 6
           clear hv2 hu2 hin2))
    all_goals
      go_wp2_with fail
      go_meet
      exact ⟨rfl, _, _, _, rfl, B3.out, V3.out, hc1, hc2, N3.out⟩
  case rest =>
    obtain ⟨rfl, a3, cap3, x2, rfl, hb, hv, hc1, hc2, hin⟩ := hcut
    have K2 := Lib.hid (K1.out.grew hb)
    have k3 := K2.out.put 6 (.slice a3 (P.length + S.G.length) cap3)
    have u3 : Upd (fun b => b = q) x2 (x2.setCell ⟨q, 6, none⟩ (.slice a3 (P.length + S.G.length) cap3)) := (Upd.refl (fun b => b = q) x2).setCell (p := ⟨q, 6, none⟩) (.inl rfl) _
    obtain ⟨W3, hW3⟩ : ∃ W, x2.setCell ⟨q, 6, none⟩ (.slice a3 (P.length + S.G.length) cap3) = W := ⟨_, rfl⟩
    rw [hW3] at k3 u3 ⊢
    have d7 : W3.cell? ⟨q, 7, none⟩ = some (.slice aP nP cP) := by rw [← NP.out]; exact k3.cell 7
    have g7 : W3.frozen? ⟨q, 7, none⟩ = false := k3.frozen 7
    have d8 : W3.cell? ⟨q, 8, none⟩ = some (.int .u64 (ct : Int)) := by rw [← CT.out]; exact k3.cell 8
    have g8 : W3.frozen? ⟨q, 8, none⟩ = false := k3.frozen 8
    have d4 : W3.cell? ⟨q, 4, none⟩ = some (.int .i64 (us : Int)) := by rw [← US.out]; exact k3.cell 4
    have g4 : W3.frozen? ⟨q, 4, none⟩ = false := k3.frozen 4
    have hAb : ∀ b, A b → b < W1.heap.size := fun b hb => by have h1 := HA.out b hb; have h2 := U1.out.size; omega
    have rG' : Rw (fun b => A b ∨ b = q) x2 a3 cap3 (P ++ S.G) := rw_fresh hv hc1 hc2 hin hAb (by rw [HB1.out]; exact hqb)
    have u2 : Upd (fun b => b = q) W1 x2 := (updFalse_of hb).mono fun _ h => h.elim
    have RF3 := Lib.hid ((RF.out.upd u2 (fun _ h => Or.inr h)).upd u3 (fun _ h => Or.inr h)); have RG3 := Lib.hid (rG'.upd u3 (fun _ h => Or.inr h))
    have K3 := Lib.hid k3; have U3 := Lib.hid (U1.out.trans (u2.trans u3))
    clear hb hv hc1 hc2 hin k3 u3 hW3 hAb rG' u2 d6 g6 d7a d6a g6a ka
    go_wp2
    go_ret
    have k4 := ((K3.out.put 7 (.slice none 0 0)).put 8 (.int .u64 (ct1 : Int))).put 4 (.int .i64 (u1 : Int))
    have u4 : Upd (fun b => b = q) W3 (((W3.setCell ⟨q, 7, none⟩ (.slice none 0 0)).setCell ⟨q, 8, none⟩ (.int .u64 (ct1 : Int))).setCell ⟨q, 4, none⟩ (.int .i64 (u1 : Int))) := (((Upd.refl (fun b => b = q) W3).setCell (p := ⟨q, 7, none⟩) (.inl rfl) _).setCell (p := ⟨q, 8, none⟩) (.inl rfl) _).setCell (p := ⟨q, 4, none⟩) (.inl rfl) _
    have hll : (P ++ S.G).length = P.length + S.G.length := List.length_append
    have hu : (gathP S P).used = u1 := by show S.used - P.length = u1; rw [US.out, NP.out]; exact UX.out
    refine ⟨rfl, ⟨⟨aF, cF, a3, cap3, none, 0, ?_, RF3.out.upd u4 (fun _ h => Or.inr h), RG3.out.upd u4 (fun _ h => Or.inr h), Rw.nil _ _⟩, HQ.out⟩, U3.out.trans u4⟩
    show Blk _ q _ (pgC (gathP S P) (.slice aF S.F.length cF) (.slice a3 (P ++ S.G).length cap3) (.slice none 0 0))
    unfold pgC
    rw [hll, hu]
    show Blk _ q _ #[.int .u64 (S.f : Int), .int .u64 (S.s : Int), .int .i64 (S.n : Int), .int .i64 (S.made : Int), .int .i64 (u1 : Int), .slice aF S.F.length cF, .slice a3 (P.length + S.G.length) cap3, .slice none 0 0, .int .u64 ((S.ct + 1 : Nat) : Int), .int .i64 ((S.ca + 1 : Nat) : Int)]
    rw [show S.ct + 1 = ct1 by rw [CT.out]; exact CT1.out, show S.ca + 1 = ca1 by rw [CA.out]; exact CA1.out]
    exact k4
end Go.Proofs.Ytlnlipjnljbegaa
