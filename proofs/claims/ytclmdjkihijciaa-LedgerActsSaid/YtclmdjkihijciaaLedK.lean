/- The landed ledger: Drop, Hold, Let. -/
import Derived.Test.YtclmdjkihijciaaLedJ
namespace Go.Proofs.Ytclmdjkihijciaa
open Go.RowKit LedMath
set_option linter.unusedVariables false

theorem eachE_nil {f : List En → Nat → Nat × List En} (hf : ∀ x, f [] x = (5, [])) : ∀ xs, eachE f [] xs = (if xs.length = 0 then 0 else 5, [])
  | [] => rfl
  | x :: r => by
    show (if (f [] x).1 = 0 then _ else f [] x) = _
    rw [hf x]; rfl
theorem each_nil (w : World) {lb : Nat} {S : Nat → Prop} {a : Option Addr} {n cap : Nat} {xs : List Nat} (fv : Value) (h : LedN w lb S) (hx : Seq Elem.u64s w (.slice a n cap) xs) (hn : n ≤ 9223372036854775807) :
    Calls Try.prog 30 #[ptrV lb 0, .slice a n cap, fv] w fun r w' => r = .returned (.int .i64 ((if xs.length = 0 then 0 else 5 : Nat) : Int)) ∧ w' = w := by
  obtain rfl := hx.len
  cases xs with
  | nil =>
    clear hx h
    go_enter Try.func30, Try.ntmps30
    go_wp2
    go_loopw [15] (fun v wr => v = .int .i64 0 ∧ wr = w) (fun v _ => 0)
    case atStart => exact ⟨rfl, rfl⟩
    case round =>
      obtain ⟨rfl, rfl⟩ := hrel
      go_wp2
      go_ret
      exact ⟨rfl, rfl⟩
  | cons x r =>
    obtain ⟨b, off, ea, hc⟩ := hx.elem (i := 0) (x := x) rfl
    subst ea
    have c0 : w.cell? ⟨b, off, none⟩ = some (.int .u64 (x : Int)) := by have := hc 0 _ rfl; simpa using this
    have AT := Lib.hid (at_nil w (x := x) h)
    obtain ⟨m, hm⟩ : ∃ m, (x :: r).length = m := ⟨_, rfl⟩
    have hm0 : 0 < m := by rw [← hm]; simp
    have HM := Lib.hid (show (if (x :: r).length = 0 then 0 else 5 : Nat) = 5 by simp)
    rw [hm] at hn ⊢
    have t1 : decide (0 < m) = true := decide_eq_true hm0
    have t2 : (0 : Int) < (m : Int) := by omega
    have e0 : (if m = 0 then 0 else 5 : Nat) = 5 := if_neg (by omega)
    rw [e0]
    clear hx hc h hm e0
    go_enter Try.func30, Try.ntmps30
    go_wp2
    go_loopw [15] (fun v wr => v = .int .i64 0 ∧ wr = w) (fun v _ => 0)
    case atStart => exact ⟨rfl, rfl⟩
    case round =>
      obtain ⟨rfl, rfl⟩ := hrel
      go_wp2_with fail
      refine AT.out.mono ?_
      rintro r w1 ⟨rfl, rfl⟩
      go_wp2_with fail
      go_ret
      exact ⟨rfl, rfl⟩
abbrev Grown (S : Nat → Prop) (w : World) : Nat → Prop := fun k => S k ∨ w.heap.size ≤ k
theorem Led.grown {w w' : World} {lb : Nat} {S : Nat → Prop} {L : List En} (h : Led w' lb S L) : Led w' lb (Grown S w) L := h.mono fun k _ hk => .inl hk
theorem Hold_any (w : World) {lb : Nat} {S : Nat → Prop} {L : List En} {a : Option Addr} {n cap : Nat} {xs : List Nat} (h : Led w lb S L) (hx : Seq Elem.u64s w (.slice a n cap) xs) (hn : n ≤ 9223372036854775807) (hS : 0 < n → ∀ k, In (.slice a n cap) k → ¬ S k) :
    Calls Try.prog 12 #[ptrV lb 0, .slice a n cap] w fun r w' => r = .returned (.int .i64 ((eachE hold1 L xs).1 : Int)) ∧ Led w' lb (Grown S w) (eachE hold1 L xs).2 ∧ Upd S w w' := by
  rcases h with ⟨h, rfl⟩ | ⟨rb, V, h⟩
  · have H := Lib.hid (each_nil w (.func (.func 31) #[] #[]) h hx hn)
    have E := Lib.hid (eachE_nil (f := hold1) (fun _ => rfl) xs)
    have HN := Lib.hid h
    obtain ⟨z, hz⟩ : ∃ z : Nat, (if xs.length = 0 then 0 else 5 : Nat) = z := ⟨_, rfl⟩
    rw [hz] at H E
    clear h hx hz
    go_enter Try.func12, Try.ntmps12
    go_wp2_with fail
    refine H.out.mono ?_
    rintro r w' ⟨rfl, rfl⟩
    go_wp2_with fail
    go_ret
    exact ⟨by rw [E.out]; rfl, by rw [E.out]; exact Led.grown (.inl ⟨HN.out, rfl⟩), Upd.refl _ _⟩
  · have H := Lib.hid (each_hold w h hx hn hS)
    clear h hx hS
    go_enter Try.func12, Try.ntmps12
    go_wp2_with fail
    refine H.out.mono ?_
    rintro r w' ⟨rfl, V', h1, h2⟩
    go_wp2_with fail
    go_ret
    exact ⟨rfl, .inr ⟨rb, V', h1⟩, h2⟩
theorem Let_any (w : World) {lb : Nat} {S : Nat → Prop} {L : List En} {a : Option Addr} {n cap : Nat} {xs : List Nat} (h : Led w lb S L) (hx : Seq Elem.u64s w (.slice a n cap) xs) (hn : n ≤ 9223372036854775807) (hS : 0 < n → ∀ k, In (.slice a n cap) k → ¬ S k) :
    Calls Try.prog 18 #[ptrV lb 0, .slice a n cap] w fun r w' => r = .returned (.int .i64 ((eachE let1 L xs).1 : Int)) ∧ Led w' lb (Grown S w) (eachE let1 L xs).2 ∧ Upd S w w' := by
  rcases h with ⟨h, rfl⟩ | ⟨rb, V, h⟩
  · have H := Lib.hid (each_nil w (.func (.func 37) #[] #[]) h hx hn)
    have E := Lib.hid (eachE_nil (f := let1) (fun _ => rfl) xs)
    have HN := Lib.hid h
    obtain ⟨z, hz⟩ : ∃ z : Nat, (if xs.length = 0 then 0 else 5 : Nat) = z := ⟨_, rfl⟩
    rw [hz] at H E
    clear h hx hz
    go_enter Try.func18, Try.ntmps18
    go_wp2_with fail
    refine H.out.mono ?_
    rintro r w' ⟨rfl, rfl⟩
    go_wp2_with fail
    go_ret
    exact ⟨by rw [E.out]; rfl, by rw [E.out]; exact Led.grown (.inl ⟨HN.out, rfl⟩), Upd.refl _ _⟩
  · have H := Lib.hid (each_let w h hx hn hS)
    clear h hx hS
    go_enter Try.func18, Try.ntmps18
    go_wp2_with fail
    refine H.out.mono ?_
    rintro r w' ⟨rfl, V', h1, h2⟩
    go_wp2_with fail
    go_ret
    exact ⟨rfl, .inr ⟨rb, V', h1⟩, h2⟩
theorem Drop_any (w : World) {lb : Nat} {S : Nat → Prop} {L : List En} {a : Option Addr} {n cap : Nat} {xs : List Nat} (h : Led w lb S L) (hx : Seq Elem.u64s w (.slice a n cap) xs) (hn : n ≤ 9223372036854775807) (hS : 0 < n → ∀ k, In (.slice a n cap) k → ¬ S k) :
    Calls Try.prog 14 #[ptrV lb 0, .slice a n cap] w fun r w' => r = .returned (.int .i64 ((eachE drop1 L xs).1 : Int)) ∧ Led w' lb (Grown S w) (eachE drop1 L xs).2 ∧ Upd S w w' := by
  have hb0 := (Below.refl w.heap.size w).alloc (Nat.le_refl _) (.cells #[ptrV lb 0] 40)
  have hx0 := hx.alloc (.cells #[ptrV lb 0] 40)
  have hq := (Blk.new w 40 #[ptrV lb 0]).cell 0
  have BL := Lib.hid hb0
  rcases h with ⟨h, rfl⟩ | ⟨rb, V, h⟩
  · have h0 : LedN (w.alloc (.cells #[ptrV lb 0] 40)) lb S := h.upd (updFalse_of hb0) fun _ _ => id
    have H := Lib.hid (fun fv => each_nil _ fv h0 hx0 hn)
    have E := Lib.hid (eachE_nil (f := drop1) (fun _ => rfl) xs)
    have HN := Lib.hid h0
    obtain ⟨z, hz⟩ : ∃ z : Nat, (if xs.length = 0 then 0 else 5 : Nat) = z := ⟨_, rfl⟩
    rw [hz] at H E
    clear h hx hz h0 hx0 hb0 hq
    go_enter Try.func14, Try.ntmps14
    go_wp2_with fail
    refine (H.out _).mono ?_
    rintro r w' ⟨rfl, rfl⟩
    go_wp2_with fail
    go_ret
    exact ⟨by rw [E.out]; rfl, by rw [E.out]; exact Led.grown (.inl ⟨HN.out, rfl⟩), (updFalse_of BL.out).mono fun _ h => h.elim⟩
  · have h0 := (h.mono (T := fun k => S k ∧ k < w.heap.size) fun k hk hs => ⟨hs, hk⟩).below hb0
    have H := Lib.hid (each_drop _ h0 hx0 hn (fun h0 k hk hs => hS h0 k hk hs.1) hq (fun hs => Nat.lt_irrefl _ hs.2))
    clear h hx hS hx0 hb0 hq h0
    go_enter Try.func14, Try.ntmps14
    go_wp2_with fail
    refine H.out.mono ?_
    rintro r w' ⟨rfl, V', h1, h2⟩
    go_wp2_with fail
    go_ret
    refine ⟨rfl, .inr ⟨rb, V', h1.mono fun k _ hk => ?_⟩, ((updFalse_of BL.out).mono fun _ h => h.elim).step h2 fun k hk => .inl hk.1⟩
    rcases hk with hk | hk
    · exact .inl hk.1
    · exact .inr (Nat.le_trans BL.out.size hk)
end Go.Proofs.Ytclmdjkihijciaa
