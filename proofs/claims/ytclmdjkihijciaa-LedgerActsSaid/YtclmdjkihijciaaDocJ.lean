/- One act on both ledgers. -/
import Derived.Test.YtclmdjkihijciaaDocI
namespace Go.Proofs.Ytclmdjkihijciaa
open Go.RowKit LedMath
set_option linter.unusedVariables false

theorem DB.start {w0 w : World} {lb mb : Nat} {cs : Array Value} {sl : Value} {xs : List Nat} {T U : Nat → Prop} {L M : List En} (h : PL w0 lb mb T U L M w) (hx : Seq Elem.u64s w sl xs) (lo : 0 < xs.length → ∀ k, In sl k → k < w0.heap.size) : DB w0 lb mb w.heap.size cs sl xs (fun k => T k ∧ k < w.heap.size) (fun k => U k ∧ k < w.heap.size) L M (w.alloc (.cells cs 38)) := by
  have hb := (Below.refl w.heap.size w).alloc (Nat.le_refl _) (.cells cs 38)
  refine ⟨(h.mono (fun k hk ht => ⟨ht, hk⟩) (fun k hk hu => ⟨hu, hk⟩) (fun k ht hu => h.ap k ht.1 hu.1) (fun k ht => h.hiT k ht.1) fun k hu => h.hiU k hu.1).grew hb, Blk.new w _ cs, fun hh => by have := hh.2; omega, fun hh => by have := hh.2; omega, hx.upd (updFalse_of hb) fun _ _ => id, lo⟩
set_option maxRecDepth 100000 in
set_option maxHeartbeats 4000000 in
theorem do_drop {w0 w : World} {lb mb : Nat} {T U : Nat → Prop} {L : List En} {sa : Option Addr} {sn sc a n g : Nat} {xs : List Nat} (h : PL w0 lb mb T U L L w) (hx : Seq Elem.u64s w (.slice sa sn sc) xs) (hn : sn ≤ 9223372036854775807) (lo : 0 < xs.length → ∀ k, In (.slice sa sn sc) k → k < w0.heap.size) :
    Calls Try.prog 6 #[ptrV lb 0, ptrV mb 0, .agg #[.int .i64 1, .int .u64 (a : Int), .int .u64 (n : Int), .int .u64 (g : Int), .slice sa sn sc]] w fun r w' => r = .returned (.bool true) ∧ ∃ T' U', PL w0 lb mb T' U' (eachE drop1 L xs).2 (eachE drop1 L xs).2 w' := by
  obtain ⟨q, hq⟩ : ∃ q, w.heap.size = q := ⟨_, rfl⟩
  have hd := DB.start (cs := #[.int .i64 1, .int .u64 (a : Int), .int .u64 (n : Int), .int .u64 (g : Int), .slice sa sn sc]) h hx lo
  rw [hq] at hd
  obtain ⟨er, L', hE⟩ : ∃ er L', eachE drop1 L xs = (er, L') := ⟨_, _, rfl⟩
  rw [hE]
  have HD : Hid (∀ T U w', DB w0 lb mb q #[.int .i64 1, .int .u64 (a : Int), .int .u64 (n : Int), .int .u64 (g : Int), .slice sa sn sc] (.slice sa sn sc) xs T U L L w' → Calls Try.prog 14 #[ptrV lb 0, .slice sa sn sc] w' fun r w2 => r = .returned (.int .i64 (er : Int)) ∧ ∃ T' U', DB w0 lb mb q #[.int .i64 1, .int .u64 (a : Int), .int .u64 (n : Int), .int .u64 (g : Int), .slice sa sn sc] (.slice sa sn sc) xs T' U' L' L w2) := Lib.hid fun T U w' k => by
    have := Drop_any w' k.pl.led k.sq hn fun h0 j hj ht => by have := k.lo (by rw [← k.sq.len]; exact h0) j hj; have := k.pl.hiT j ht; omega
    rw [hE] at this
    exact this.mono fun r w2 z => ⟨z.1, _, _, k.one z.2.1 z.2.2⟩
  have HE : Hid (∀ T U w', DB w0 lb mb q #[.int .i64 1, .int .u64 (a : Int), .int .u64 (n : Int), .int .u64 (g : Int), .slice sa sn sc] (.slice sa sn sc) xs T U L' L w' → Calls Try.prog 15 #[.slice sa sn sc, .func (.func 16) #[ptrV mb 0] #[]] w' fun r w2 => r = .returned (.int .i64 (er : Int)) ∧ ∃ T' U', DB w0 lb mb q #[.int .i64 1, .int .u64 (a : Int), .int .u64 (n : Int), .int .u64 (g : Int), .slice sa sn sc] (.slice sa sn sc) xs T' U' L' L' w2) := Lib.hid fun T U w' k => by
    have := doc_each_drop w' k.pl.doc k.sq hn fun h0 j hj ht => by have := k.lo (by rw [← k.sq.len]; exact h0) j hj; have := k.pl.hiU j ht; omega
    rw [hE] at this
    exact this.mono fun r w2 z => ⟨z.1, _, _, k.two z.2.1 z.2.2⟩
  obtain ⟨W0, hW⟩ : ∃ W0, w.alloc (.cells #[.int .i64 1, .int .u64 (a : Int), .int .u64 (n : Int), .int .u64 (g : Int), .slice sa sn sc] 38) = W0 := ⟨_, rfl⟩
  rw [hW] at hd
  obtain ⟨T0, hT0⟩ : ∃ T0, (fun k => T k ∧ k < q) = T0 := ⟨_, rfl⟩
  obtain ⟨U0, hU0⟩ : ∃ U0, (fun k => U k ∧ k < q) = U0 := ⟨_, rfl⟩
  rw [hT0, hU0] at hd
  have ST := Lib.hid hd
  have b0 : W0.cell? ⟨q, 0, none⟩ = some (.int .i64 1) := hd.bx.cell 0
  have b4 : W0.cell? ⟨q, 4, none⟩ = some (.slice sa sn sc) := hd.bx.cell 4
  have HW := Lib.hid hW
  have q1 : ((er : Int) == (er : Int)) = true := by simp
  clear hd hE h hx hn lo hT0 hU0
  go_enter Try.func6, Try.ntmps6
  go_wp2_with fail
  go_region_held3 (fun w' => w'.cell? ⟨q, 4, none⟩ = some (.slice sa sn sc)) (first | go_keep | exact b4)
    (first
      | (go_at_call 14; (first | (with_reducible refine (HD.out _ _ _ ST.out.drew).mono ?_) | (with_reducible refine (HD.out _ _ _ ST.out).mono ?_)); rintro r w5 ⟨rfl, T1, U1, hst⟩; have b4 : w5.cell? ⟨q, 4, none⟩ = some (.slice sa sn sc) := hst.bx.cell 4; have ST := Lib.hid hst; clear hst)
      | (go_at_call 15; (first | (with_reducible refine (HE.out _ _ _ ST.out.drew).mono ?_) | (with_reducible refine (HE.out _ _ _ ST.out).mono ?_)); rintro r w6 ⟨rfl, T2, U2, hst⟩; have b4 : w6.cell? ⟨q, 4, none⟩ = some (.slice sa sn sc) := hst.bx.cell 4; have ST := Lib.hid hst; clear hst))
  all_goals go_wp2_with fail
  all_goals go_ret
  all_goals exact ⟨rfl, _, _, ST.out.pl⟩
set_option maxRecDepth 100000 in
set_option maxHeartbeats 4000000 in
theorem do_hold {w0 w : World} {lb mb : Nat} {T U : Nat → Prop} {L : List En} {sa : Option Addr} {sn sc a n g : Nat} {xs : List Nat} (h : PL w0 lb mb T U L L w) (hx : Seq Elem.u64s w (.slice sa sn sc) xs) (hn : sn ≤ 9223372036854775807) (lo : 0 < xs.length → ∀ k, In (.slice sa sn sc) k → k < w0.heap.size) :
    Calls Try.prog 6 #[ptrV lb 0, ptrV mb 0, .agg #[.int .i64 2, .int .u64 (a : Int), .int .u64 (n : Int), .int .u64 (g : Int), .slice sa sn sc]] w fun r w' => r = .returned (.bool true) ∧ ∃ T' U', PL w0 lb mb T' U' (eachE hold1 L xs).2 (eachE hold1 L xs).2 w' := by
  obtain ⟨q, hq⟩ : ∃ q, w.heap.size = q := ⟨_, rfl⟩
  have hd := DB.start (cs := #[.int .i64 2, .int .u64 (a : Int), .int .u64 (n : Int), .int .u64 (g : Int), .slice sa sn sc]) h hx lo
  rw [hq] at hd
  obtain ⟨er, L', hE⟩ : ∃ er L', eachE hold1 L xs = (er, L') := ⟨_, _, rfl⟩
  rw [hE]
  have HD : Hid (∀ T U w', DB w0 lb mb q #[.int .i64 2, .int .u64 (a : Int), .int .u64 (n : Int), .int .u64 (g : Int), .slice sa sn sc] (.slice sa sn sc) xs T U L L w' → Calls Try.prog 12 #[ptrV lb 0, .slice sa sn sc] w' fun r w2 => r = .returned (.int .i64 (er : Int)) ∧ ∃ T' U', DB w0 lb mb q #[.int .i64 2, .int .u64 (a : Int), .int .u64 (n : Int), .int .u64 (g : Int), .slice sa sn sc] (.slice sa sn sc) xs T' U' L' L w2) := Lib.hid fun T U w' k => by
    have := Hold_any w' k.pl.led k.sq hn fun h0 j hj ht => by have := k.lo (by rw [← k.sq.len]; exact h0) j hj; have := k.pl.hiT j ht; omega
    rw [hE] at this
    exact this.mono fun r w2 z => ⟨z.1, _, _, k.one z.2.1 z.2.2⟩
  have HE : Hid (∀ T U w', DB w0 lb mb q #[.int .i64 2, .int .u64 (a : Int), .int .u64 (n : Int), .int .u64 (g : Int), .slice sa sn sc] (.slice sa sn sc) xs T U L' L w' → Calls Try.prog 15 #[.slice sa sn sc, .func (.func 17) #[ptrV mb 0] #[]] w' fun r w2 => r = .returned (.int .i64 (er : Int)) ∧ ∃ T' U', DB w0 lb mb q #[.int .i64 2, .int .u64 (a : Int), .int .u64 (n : Int), .int .u64 (g : Int), .slice sa sn sc] (.slice sa sn sc) xs T' U' L' L' w2) := Lib.hid fun T U w' k => by
    have := doc_each_hold w' k.pl.doc k.sq hn fun h0 j hj ht => by have := k.lo (by rw [← k.sq.len]; exact h0) j hj; have := k.pl.hiU j ht; omega
    rw [hE] at this
    exact this.mono fun r w2 z => ⟨z.1, _, _, k.two z.2.1 z.2.2⟩
  obtain ⟨W0, hW⟩ : ∃ W0, w.alloc (.cells #[.int .i64 2, .int .u64 (a : Int), .int .u64 (n : Int), .int .u64 (g : Int), .slice sa sn sc] 38) = W0 := ⟨_, rfl⟩
  rw [hW] at hd
  obtain ⟨T0, hT0⟩ : ∃ T0, (fun k => T k ∧ k < q) = T0 := ⟨_, rfl⟩
  obtain ⟨U0, hU0⟩ : ∃ U0, (fun k => U k ∧ k < q) = U0 := ⟨_, rfl⟩
  rw [hT0, hU0] at hd
  have ST := Lib.hid hd
  have b0 : W0.cell? ⟨q, 0, none⟩ = some (.int .i64 2) := hd.bx.cell 0
  have b4 : W0.cell? ⟨q, 4, none⟩ = some (.slice sa sn sc) := hd.bx.cell 4
  have HW := Lib.hid hW
  have q1 : ((er : Int) == (er : Int)) = true := by simp
  clear hd hE h hx hn lo hT0 hU0
  go_enter Try.func6, Try.ntmps6
  go_wp2_with fail
  go_region_held3 (fun w' => w'.cell? ⟨q, 4, none⟩ = some (.slice sa sn sc)) (first | go_keep | exact b4)
    (first
      | (go_at_call 12; (first | (with_reducible refine (HD.out _ _ _ ST.out.drew).mono ?_) | (with_reducible refine (HD.out _ _ _ ST.out).mono ?_)); rintro r w5 ⟨rfl, T1, U1, hst⟩; have b4 : w5.cell? ⟨q, 4, none⟩ = some (.slice sa sn sc) := hst.bx.cell 4; have ST := Lib.hid hst; clear hst)
      | (go_at_call 15; (first | (with_reducible refine (HE.out _ _ _ ST.out.drew).mono ?_) | (with_reducible refine (HE.out _ _ _ ST.out).mono ?_)); rintro r w6 ⟨rfl, T2, U2, hst⟩; have b4 : w6.cell? ⟨q, 4, none⟩ = some (.slice sa sn sc) := hst.bx.cell 4; have ST := Lib.hid hst; clear hst))
  all_goals go_wp2_with fail
  all_goals go_ret
  all_goals exact ⟨rfl, _, _, ST.out.pl⟩
set_option maxRecDepth 100000 in
set_option maxHeartbeats 4000000 in
theorem do_let {w0 w : World} {lb mb : Nat} {T U : Nat → Prop} {L : List En} {sa : Option Addr} {sn sc a n g : Nat} {xs : List Nat} (h : PL w0 lb mb T U L L w) (hx : Seq Elem.u64s w (.slice sa sn sc) xs) (hn : sn ≤ 9223372036854775807) (lo : 0 < xs.length → ∀ k, In (.slice sa sn sc) k → k < w0.heap.size) :
    Calls Try.prog 6 #[ptrV lb 0, ptrV mb 0, .agg #[.int .i64 3, .int .u64 (a : Int), .int .u64 (n : Int), .int .u64 (g : Int), .slice sa sn sc]] w fun r w' => r = .returned (.bool true) ∧ ∃ T' U', PL w0 lb mb T' U' (eachE let1 L xs).2 (eachE let1 L xs).2 w' := by
  obtain ⟨q, hq⟩ : ∃ q, w.heap.size = q := ⟨_, rfl⟩
  have hd := DB.start (cs := #[.int .i64 3, .int .u64 (a : Int), .int .u64 (n : Int), .int .u64 (g : Int), .slice sa sn sc]) h hx lo
  rw [hq] at hd
  obtain ⟨er, L', hE⟩ : ∃ er L', eachE let1 L xs = (er, L') := ⟨_, _, rfl⟩
  rw [hE]
  have HD : Hid (∀ T U w', DB w0 lb mb q #[.int .i64 3, .int .u64 (a : Int), .int .u64 (n : Int), .int .u64 (g : Int), .slice sa sn sc] (.slice sa sn sc) xs T U L L w' → Calls Try.prog 18 #[ptrV lb 0, .slice sa sn sc] w' fun r w2 => r = .returned (.int .i64 (er : Int)) ∧ ∃ T' U', DB w0 lb mb q #[.int .i64 3, .int .u64 (a : Int), .int .u64 (n : Int), .int .u64 (g : Int), .slice sa sn sc] (.slice sa sn sc) xs T' U' L' L w2) := Lib.hid fun T U w' k => by
    have := Let_any w' k.pl.led k.sq hn fun h0 j hj ht => by have := k.lo (by rw [← k.sq.len]; exact h0) j hj; have := k.pl.hiT j ht; omega
    rw [hE] at this
    exact this.mono fun r w2 z => ⟨z.1, _, _, k.one z.2.1 z.2.2⟩
  have HE : Hid (∀ T U w', DB w0 lb mb q #[.int .i64 3, .int .u64 (a : Int), .int .u64 (n : Int), .int .u64 (g : Int), .slice sa sn sc] (.slice sa sn sc) xs T U L' L w' → Calls Try.prog 15 #[.slice sa sn sc, .func (.func 19) #[ptrV mb 0] #[]] w' fun r w2 => r = .returned (.int .i64 (er : Int)) ∧ ∃ T' U', DB w0 lb mb q #[.int .i64 3, .int .u64 (a : Int), .int .u64 (n : Int), .int .u64 (g : Int), .slice sa sn sc] (.slice sa sn sc) xs T' U' L' L' w2) := Lib.hid fun T U w' k => by
    have := doc_each_let w' k.pl.doc k.sq hn fun h0 j hj ht => by have := k.lo (by rw [← k.sq.len]; exact h0) j hj; have := k.pl.hiU j ht; omega
    rw [hE] at this
    exact this.mono fun r w2 z => ⟨z.1, _, _, k.two z.2.1 z.2.2⟩
  obtain ⟨W0, hW⟩ : ∃ W0, w.alloc (.cells #[.int .i64 3, .int .u64 (a : Int), .int .u64 (n : Int), .int .u64 (g : Int), .slice sa sn sc] 38) = W0 := ⟨_, rfl⟩
  rw [hW] at hd
  obtain ⟨T0, hT0⟩ : ∃ T0, (fun k => T k ∧ k < q) = T0 := ⟨_, rfl⟩
  obtain ⟨U0, hU0⟩ : ∃ U0, (fun k => U k ∧ k < q) = U0 := ⟨_, rfl⟩
  rw [hT0, hU0] at hd
  have ST := Lib.hid hd
  have b0 : W0.cell? ⟨q, 0, none⟩ = some (.int .i64 3) := hd.bx.cell 0
  have b4 : W0.cell? ⟨q, 4, none⟩ = some (.slice sa sn sc) := hd.bx.cell 4
  have HW := Lib.hid hW
  have q1 : ((er : Int) == (er : Int)) = true := by simp
  clear hd hE h hx hn lo hT0 hU0
  go_enter Try.func6, Try.ntmps6
  go_wp2_with fail
  go_region_held3 (fun w' => w'.cell? ⟨q, 4, none⟩ = some (.slice sa sn sc)) (first | go_keep | exact b4)
    (first
      | (go_at_call 18; (first | (with_reducible refine (HD.out _ _ _ ST.out.drew).mono ?_) | (with_reducible refine (HD.out _ _ _ ST.out).mono ?_)); rintro r w5 ⟨rfl, T1, U1, hst⟩; have b4 : w5.cell? ⟨q, 4, none⟩ = some (.slice sa sn sc) := hst.bx.cell 4; have ST := Lib.hid hst; clear hst)
      | (go_at_call 15; (first | (with_reducible refine (HE.out _ _ _ ST.out.drew).mono ?_) | (with_reducible refine (HE.out _ _ _ ST.out).mono ?_)); rintro r w6 ⟨rfl, T2, U2, hst⟩; have b4 : w6.cell? ⟨q, 4, none⟩ = some (.slice sa sn sc) := hst.bx.cell 4; have ST := Lib.hid hst; clear hst))
  all_goals go_wp2_with fail
  all_goals go_ret
  all_goals exact ⟨rfl, _, _, ST.out.pl⟩
set_option maxRecDepth 100000 in
set_option maxHeartbeats 4000000 in
theorem do_free {w0 w : World} {lb mb : Nat} {T U : Nat → Prop} {L : List En} {sa : Option Addr} {sn sc a n g : Nat} {xs : List Nat} (h : PL w0 lb mb T U L L w) (hx : Seq Elem.u64s w (.slice sa sn sc) xs) (lo : 0 < xs.length → ∀ k, In (.slice sa sn sc) k → k < w0.heap.size) (ha : U64B a) (hn : U64B n) (hg : U64B g) :
    Calls Try.prog 6 #[ptrV lb 0, ptrV mb 0, .agg #[.int .i64 5, .int .u64 (a : Int), .int .u64 (n : Int), .int .u64 (g : Int), .slice sa sn sc]] w fun r w' => r = .returned (.bool true) ∧ ∃ T' U', PL w0 lb mb T' U' L L w' := by
  obtain ⟨q, hq⟩ : ∃ q, w.heap.size = q := ⟨_, rfl⟩
  have hd := DB.start (cs := #[.int .i64 5, .int .u64 (a : Int), .int .u64 (n : Int), .int .u64 (g : Int), .slice sa sn sc]) h hx lo
  rw [hq] at hd
  obtain ⟨fr, hF⟩ : ∃ fr, freeL L a n = fr := ⟨_, rfl⟩
  have HD : Hid (∀ T U w', DB w0 lb mb q #[.int .i64 5, .int .u64 (a : Int), .int .u64 (n : Int), .int .u64 (g : Int), .slice sa sn sc] (.slice sa sn sc) xs T U L L w' → Calls Try.prog 23 #[ptrV lb 0, .int .u64 (a : Int), .int .u64 (n : Int)] w' fun r w2 => r = .returned (.bool fr) ∧ DB w0 lb mb q #[.int .i64 5, .int .u64 (a : Int), .int .u64 (n : Int), .int .u64 (g : Int), .slice sa sn sc] (.slice sa sn sc) xs T U L L w2) := Lib.hid fun T U w' k => by
    have := Free_any w' k.pl.led ha hn
    rw [hF] at this
    exact this.mono fun r w2 z => ⟨z.1, k.grew z.2⟩
  have HE : Hid (∀ T U w', DB w0 lb mb q #[.int .i64 5, .int .u64 (a : Int), .int .u64 (n : Int), .int .u64 (g : Int), .slice sa sn sc] (.slice sa sn sc) xs T U L L w' → Calls Try.prog 24 #[ptrV mb 0, .int .u64 (a : Int), .int .u64 (n : Int)] w' fun r w2 => r = .returned (.bool fr) ∧ DB w0 lb mb q #[.int .i64 5, .int .u64 (a : Int), .int .u64 (n : Int), .int .u64 (g : Int), .slice sa sn sc] (.slice sa sn sc) xs T U L L w2) := Lib.hid fun T U w' k => by
    have := doc_Free w' k.pl.doc ha hn
    rw [hF] at this
    exact this.mono fun r w2 z => ⟨z.1, k.grew z.2⟩
  obtain ⟨W0, hW⟩ : ∃ W0, w.alloc (.cells #[.int .i64 5, .int .u64 (a : Int), .int .u64 (n : Int), .int .u64 (g : Int), .slice sa sn sc] 38) = W0 := ⟨_, rfl⟩
  rw [hW] at hd
  obtain ⟨T0, hT0⟩ : ∃ T0, (fun k => T k ∧ k < q) = T0 := ⟨_, rfl⟩
  obtain ⟨U0, hU0⟩ : ∃ U0, (fun k => U k ∧ k < q) = U0 := ⟨_, rfl⟩
  rw [hT0, hU0] at hd
  have ST := Lib.hid hd
  have b0 : W0.cell? ⟨q, 0, none⟩ = some (.int .i64 5) := hd.bx.cell 0
  have b1 : W0.cell? ⟨q, 1, none⟩ = some (.int .u64 (a : Int)) := hd.bx.cell 1
  have b2 : W0.cell? ⟨q, 2, none⟩ = some (.int .u64 (n : Int)) := hd.bx.cell 2
  have b3 : W0.cell? ⟨q, 3, none⟩ = some (.int .u64 (g : Int)) := hd.bx.cell 3
  have HW := Lib.hid hW
  have q1 : (fr == fr) = true := by simp
  clear hd hF h hx ha hn hg lo hT0 hU0
  go_enter Try.func6, Try.ntmps6
  go_wp2_with fail
  go_region_held3 (fun w' => w'.cell? ⟨q, 1, none⟩ = some (.int .u64 (a : Int)) ∧ w'.cell? ⟨q, 2, none⟩ = some (.int .u64 (n : Int)) ∧ w'.cell? ⟨q, 3, none⟩ = some (.int .u64 (g : Int))) (first | go_keep | exact ⟨b1, b2, b3⟩)
    (first
      | (go_at_call 23; (first | (with_reducible refine (HD.out _ _ _ ST.out.drew).mono ?_) | (with_reducible refine (HD.out _ _ _ ST.out).mono ?_)); rintro r w5 ⟨rfl, hst⟩; have b1 : w5.cell? ⟨q, 1, none⟩ = some (.int .u64 (a : Int)) := hst.bx.cell 1; have b2 : w5.cell? ⟨q, 2, none⟩ = some (.int .u64 (n : Int)) := hst.bx.cell 2; have b3 : w5.cell? ⟨q, 3, none⟩ = some (.int .u64 (g : Int)) := hst.bx.cell 3; have ST := Lib.hid hst; clear hst)
      | (go_at_call 24; (first | (with_reducible refine (HE.out _ _ _ ST.out.drew).mono ?_) | (with_reducible refine (HE.out _ _ _ ST.out).mono ?_)); rintro r w6 ⟨rfl, hst⟩; have b1 : w6.cell? ⟨q, 1, none⟩ = some (.int .u64 (a : Int)) := hst.bx.cell 1; have b2 : w6.cell? ⟨q, 2, none⟩ = some (.int .u64 (n : Int)) := hst.bx.cell 2; have b3 : w6.cell? ⟨q, 3, none⟩ = some (.int .u64 (g : Int)) := hst.bx.cell 3; have ST := Lib.hid hst; clear hst))
  all_goals go_wp2_with fail
  all_goals go_ret
  all_goals exact ⟨by first | rfl | (cases fr <;> rfl), _, _, ST.out.pl⟩
set_option maxRecDepth 100000 in
set_option maxHeartbeats 4000000 in
theorem do_add {w0 w : World} {lb mb : Nat} {T U : Nat → Prop} {L : List En} {sa : Option Addr} {sn sc a n g : Nat} {kk : Int} {xs : List Nat} (h : PL w0 lb mb T U L L w) (hx : Seq Elem.u64s w (.slice sa sn sc) xs) (lo : 0 < xs.length → ∀ k, In (.slice sa sn sc) k → k < w0.heap.size) (ha : U64B a) (hn : U64B n) (hg : U64B g) (hl : L.length < 1048576) (n1 : (kk == 1) = false) (n2 : (kk == 2) = false) (n3 : (kk == 3) = false) (n4 : (kk == 4) = false) (n5 : (kk == 5) = false) :
    Calls Try.prog 6 #[ptrV lb 0, ptrV mb 0, .agg #[.int .i64 kk, .int .u64 (a : Int), .int .u64 (n : Int), .int .u64 (g : Int), .slice sa sn sc]] w fun r w' => r = .returned (.bool true) ∧ ∃ T' U', PL w0 lb mb T' U' (addE L a n g).2 (addE L a n g).2 w' := by
  obtain ⟨q, hq⟩ : ∃ q, w.heap.size = q := ⟨_, rfl⟩
  have hd := DB.start (cs := #[.int .i64 kk, .int .u64 (a : Int), .int .u64 (n : Int), .int .u64 (g : Int), .slice sa sn sc]) h hx lo
  rw [hq] at hd
  obtain ⟨er, L', hE⟩ : ∃ er L', addE L a n g = (er, L') := ⟨_, _, rfl⟩
  rw [hE]
  have HD : Hid (∀ T U w', DB w0 lb mb q #[.int .i64 kk, .int .u64 (a : Int), .int .u64 (n : Int), .int .u64 (g : Int), .slice sa sn sc] (.slice sa sn sc) xs T U L L w' → Calls Try.prog 11 #[ptrV lb 0, .agg #[.int .u64 (a : Int), .int .u64 (n : Int), .int .u64 (g : Int)]] w' fun r w2 => r = .returned (.int .i64 (er : Int)) ∧ ∃ T' U', DB w0 lb mb q #[.int .i64 kk, .int .u64 (a : Int), .int .u64 (n : Int), .int .u64 (g : Int), .slice sa sn sc] (.slice sa sn sc) xs T' U' L' L w2) := Lib.hid fun T U w' k => by
    have := Add_any w' k.pl.led ha hn hg
    rw [hE] at this
    exact this.mono fun r w2 z => ⟨z.1, _, _, k.one z.2.1 z.2.2⟩
  have HE : Hid (∀ T U w', DB w0 lb mb q #[.int .i64 kk, .int .u64 (a : Int), .int .u64 (n : Int), .int .u64 (g : Int), .slice sa sn sc] (.slice sa sn sc) xs T U L' L w' → Calls Try.prog 25 #[ptrV mb 0, .agg #[.int .u64 (a : Int), .int .u64 (n : Int), .int .u64 (g : Int)]] w' fun r w2 => r = .returned (.int .i64 (er : Int)) ∧ ∃ T' U', DB w0 lb mb q #[.int .i64 kk, .int .u64 (a : Int), .int .u64 (n : Int), .int .u64 (g : Int), .slice sa sn sc] (.slice sa sn sc) xs T' U' L' L' w2) := Lib.hid fun T U w' k => by
    have := doc_Add w' (g := g) k.pl.doc ha hn hl
    rw [hE] at this
    exact this.mono fun r w2 z => ⟨z.1, _, _, k.two z.2.1 z.2.2⟩
  obtain ⟨W0, hW⟩ : ∃ W0, w.alloc (.cells #[.int .i64 kk, .int .u64 (a : Int), .int .u64 (n : Int), .int .u64 (g : Int), .slice sa sn sc] 38) = W0 := ⟨_, rfl⟩
  rw [hW] at hd
  obtain ⟨T0, hT0⟩ : ∃ T0, (fun k => T k ∧ k < q) = T0 := ⟨_, rfl⟩
  obtain ⟨U0, hU0⟩ : ∃ U0, (fun k => U k ∧ k < q) = U0 := ⟨_, rfl⟩
  rw [hT0, hU0] at hd
  have ST := Lib.hid hd
  have b0 : W0.cell? ⟨q, 0, none⟩ = some (.int .i64 kk) := hd.bx.cell 0
  have b1 : W0.cell? ⟨q, 1, none⟩ = some (.int .u64 (a : Int)) := hd.bx.cell 1
  have b2 : W0.cell? ⟨q, 2, none⟩ = some (.int .u64 (n : Int)) := hd.bx.cell 2
  have b3 : W0.cell? ⟨q, 3, none⟩ = some (.int .u64 (g : Int)) := hd.bx.cell 3
  have HW := Lib.hid hW
  have q1 : ((er : Int) == (er : Int)) = true := by simp
  clear hd hE h hx ha hn hg hl lo hT0 hU0
  go_enter Try.func6, Try.ntmps6
  go_wp2_with fail
  go_region_held3 (fun w' => w'.cell? ⟨q, 1, none⟩ = some (.int .u64 (a : Int)) ∧ w'.cell? ⟨q, 2, none⟩ = some (.int .u64 (n : Int)) ∧ w'.cell? ⟨q, 3, none⟩ = some (.int .u64 (g : Int))) (first | go_keep | exact ⟨b1, b2, b3⟩)
    (first
      | (go_at_call 11; (first | (with_reducible refine (HD.out _ _ _ ST.out.drew).mono ?_) | (with_reducible refine (HD.out _ _ _ ST.out).mono ?_)); rintro r w5 ⟨rfl, T1, U1, hst⟩; have b1 : w5.cell? ⟨q, 1, none⟩ = some (.int .u64 (a : Int)) := hst.bx.cell 1; have b2 : w5.cell? ⟨q, 2, none⟩ = some (.int .u64 (n : Int)) := hst.bx.cell 2; have b3 : w5.cell? ⟨q, 3, none⟩ = some (.int .u64 (g : Int)) := hst.bx.cell 3; have ST := Lib.hid hst; clear hst)
      | (go_at_call 25; (first | (with_reducible refine (HE.out _ _ _ ST.out.drew).mono ?_) | (with_reducible refine (HE.out _ _ _ ST.out).mono ?_)); rintro r w6 ⟨rfl, T2, U2, hst⟩; have b1 : w6.cell? ⟨q, 1, none⟩ = some (.int .u64 (a : Int)) := hst.bx.cell 1; have b2 : w6.cell? ⟨q, 2, none⟩ = some (.int .u64 (n : Int)) := hst.bx.cell 2; have b3 : w6.cell? ⟨q, 3, none⟩ = some (.int .u64 (g : Int)) := hst.bx.cell 3; have ST := Lib.hid hst; clear hst))
  all_goals go_wp2_with fail
  all_goals go_ret
  all_goals exact ⟨rfl, _, _, ST.out.pl⟩
end Go.Proofs.Ytclmdjkihijciaa
