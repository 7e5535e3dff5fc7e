/- What the laws of layer 8 need of the program's cells, at any place of any block (to be proved of the code that landed). -/
import Derived.Test.YtgfinibimdgkfaaElems
import Derived.Test.YtgfinibimdgkfaaPlaces
namespace Go.Proofs.Ytgfinibimdgkfaa
open Go.RowKit
set_option linter.unusedVariables false

/-- A cell at a place: its word, its tag, how often it was asked (in the order in which the program's struct has them). -/
def CC (w : World) (b o x t : Nat) (n : Int) : Prop := ∃ ty cs, Blk w b ty cs ∧ cs[o]? = some (.int .u64 (x : Int)) ∧ cs[o + 1]? = some (.int .u64 (t : Int)) ∧ cs[o + 2]? = some (.int .i64 n)
/-- Its cells. -/
def CPl (b o : Nat) (c i : Nat) : Prop := c = b ∧ (i = o ∨ i = o + 1 ∨ i = o + 2)
theorem CC.lt {w : World} {b o x t : Nat} {n : Int} (h : CC w b o x t n) : b < w.heap.size := by obtain ⟨ty, cs, k, _⟩ := h; exact k.lt
theorem CC.upd {S : Nat → Prop} {w w' : World} {b o x t : Nat} {n : Int} (h : CC w b o x t n) (u : Upd S w w') (hs : ¬ S b) : CC w' b o x t n := by obtain ⟨ty, cs, k, e⟩ := h; exact ⟨ty, cs, k.upd u hs, e⟩
def Elem.ptrs : Elem (Option Addr) := ⟨1, fun a => [.pointer a], fun _ => rfl, by intro x u h; rw [List.mem_singleton.1 h]; rfl, by decide⟩
def sumI : List Int → Int
  | [] => 0
  | a :: t => a + sumI t
abbrev TagB (t : Nat) : Prop := t ≤ 1000000000
abbrev AskB (n : Int) : Prop := 0 ≤ n ∧ n ≤ 1000000000
structure Ce (w0 : World) : Prop where
  load : ∀ w, Below w0.heap.size w0 w → ∀ {b o x t : Nat} {n : Int}, CC w b o x t n → AskB n → Calls Try.prog 14 #[.pointer (some ⟨b, o, none⟩)] w fun e w' => e = .returned (.tuple #[.int .u64 (x : Int), .int .u64 (t : Int)]) ∧ CC w' b o x t (n + 1) ∧ Wrt (fun _ => False) (CPl b o) w w'
  store : ∀ w, Below w0.heap.size w0 w → ∀ {b o x t : Nat} {n : Int} (y : Nat), CC w b o x t n → AskB n → TagB t → y ≤ 18446744073709551615 → Calls Try.prog 9 #[.pointer (some ⟨b, o, none⟩), .int .u64 (y : Int)] w fun e w' => e = .returned (.tuple #[]) ∧ CC w' b o y (t + 1) (n + 1) ∧ Wrt (fun _ => False) (CPl b o) w w'
  swap : ∀ w, Below w0.heap.size w0 w → ∀ {b o x t : Nat} {n : Int} (y : Nat), CC w b o x t n → AskB n → TagB t → y ≤ 18446744073709551615 → Calls Try.prog 11 #[.pointer (some ⟨b, o, none⟩), .int .u64 (y : Int)] w fun e w' => e = .returned (.int .u64 (x : Int)) ∧ CC w' b o y (t + 1) (n + 1) ∧ Wrt (fun _ => False) (CPl b o) w w'
  cas : ∀ w, Below w0.heap.size w0 w → ∀ {b o x t : Nat} {n : Int} (g y : Nat), CC w b o x t n → AskB n → TagB t → g ≤ 18446744073709551615 → y ≤ 18446744073709551615 → Calls Try.prog 12 #[.pointer (some ⟨b, o, none⟩), .int .u64 (g : Int), .int .u64 (y : Int)] w fun e w' => e = .returned (.bool (decide (g = t))) ∧ CC w' b o (if g = t then y else x) (if g = t then t + 1 else t) (n + 1) ∧ Wrt (fun _ => False) (CPl b o) w w'
  asked : ∀ w, Below w0.heap.size w0 w → ∀ {a : Option Addr} {k cap : Nat} (l : List (Option Addr)) (f : Addr → Int), Seq Elem.ptrs w (.slice a k cap) l → k ≤ 1000 → k ≤ cap → cap ≤ 9223372036854775807 → (∀ p, some p ∈ l → AskB (f p) ∧ ∃ b o x t, p = ⟨b, o, none⟩ ∧ CC w b o x t (f p)) →
    Calls Try.prog 16 #[.slice a k cap] w fun e w' => e = .returned (.int .i64 (sumI (l.map fun p => p.elim 0 f))) ∧ Below w.heap.size w w'
theorem Ce.up {w0 w : World} (C : Ce w0) (hb : Below w0.heap.size w0 w) : Ce w where
  load w' hw := C.load w' (below_then hb hb.size hw)
  store w' hw := C.store w' (below_then hb hb.size hw)
  swap w' hw := C.swap w' (below_then hb hb.size hw)
  cas w' hw := C.cas w' (below_then hb hb.size hw)
  asked w' hw := C.asked w' (below_then hb hb.size hw)
/-- A cell of a law's own. -/
structure OC (w : World) (b x t : Nat) (n : Int) (w' : World) : Prop where
  cc : CC w' b 0 x t n
  fb : w.heap.size ≤ b
  below : Below w.heap.size w w'
theorem OC.turn {w w' w2 : World} {b x t y s : Nat} {n m : Int} (h : OC w b x t n w') (c : CC w2 b 0 y s m) (W : Wrt (fun _ => False) (CPl b 0) w' w2) : OC w b y s m w2 :=
  ⟨c, h.fb, h.below.trans (W.below (fun _ h => h.elim) (fun c i hc => by rw [hc.1]; exact h.fb) h.below.size)⟩
theorem OC.grew {w w' w2 : World} {b x t : Nat} {n : Int} (h : OC w b x t n w') (hb : Below w'.heap.size w' w2) : OC w b x t n w2 := ⟨h.cc.upd (updFalse_of hb) id, h.fb, below_then h.below h.below.size hb⟩
theorem OC.new {w w1 : World} (ty : TypeId) (hb : Below w.heap.size w w1) {b : Nat} (e : w1.heap.size = b) : OC w b 0 0 0 (w1.alloc (.cells #[.int .u64 0, .int .u64 0, .int .i64 0] ty)) := by
  subst e
  exact ⟨⟨ty, _, Blk.new w1 ty _, rfl, rfl, rfl⟩, hb.size, hb.alloc hb.size _⟩
section
variable {w : World} {b x t : Nat} {n : Int}
theorem oc_load (C : Ce w) (hn : AskB n) (w' : World) (h : OC w b x t n w') : Calls Try.prog 14 #[.pointer (some ⟨b, 0, none⟩)] w' fun e w2 => e = .returned (.tuple #[.int .u64 (x : Int), .int .u64 (t : Int)]) ∧ OC w b x t (n + 1) w2 :=
  (C.load w' h.below h.cc hn).mono fun e w2 ⟨h1, h2, h3⟩ => ⟨h1, h.turn h2 h3⟩
theorem oc_store (C : Ce w) (hn : AskB n) (ht : TagB t) {y : Nat} (hy : y ≤ 18446744073709551615) (w' : World) (h : OC w b x t n w') : Calls Try.prog 9 #[.pointer (some ⟨b, 0, none⟩), .int .u64 (y : Int)] w' fun e w2 => e = .returned (.tuple #[]) ∧ OC w b y (t + 1) (n + 1) w2 :=
  (C.store w' h.below y h.cc hn ht hy).mono fun e w2 ⟨h1, h2, h3⟩ => ⟨h1, h.turn h2 h3⟩
theorem oc_swap (C : Ce w) (hn : AskB n) (ht : TagB t) {y : Nat} (hy : y ≤ 18446744073709551615) (w' : World) (h : OC w b x t n w') : Calls Try.prog 11 #[.pointer (some ⟨b, 0, none⟩), .int .u64 (y : Int)] w' fun e w2 => e = .returned (.int .u64 (x : Int)) ∧ OC w b y (t + 1) (n + 1) w2 :=
  (C.swap w' h.below y h.cc hn ht hy).mono fun e w2 ⟨h1, h2, h3⟩ => ⟨h1, h.turn h2 h3⟩
theorem oc_cas (C : Ce w) (hn : AskB n) (ht : TagB t) {g y : Nat} (hg : g ≤ 18446744073709551615) (hy : y ≤ 18446744073709551615) (w' : World) (h : OC w b x t n w') : Calls Try.prog 12 #[.pointer (some ⟨b, 0, none⟩), .int .u64 (g : Int), .int .u64 (y : Int)] w' fun e w2 => e = .returned (.bool (decide (g = t))) ∧ OC w b (if g = t then y else x) (if g = t then t + 1 else t) (n + 1) w2 :=
  (C.cas w' h.below g y h.cc hn ht hg hy).mono fun e w2 ⟨h1, h2, h3⟩ => ⟨h1, h.turn h2 h3⟩
theorem oc_asked (C : Ce w) (hn : AskB n) (w' : World) (h : OC w b x t n w') (a : Option Addr) (k cap : Nat) (l : List (Option Addr)) (hl : l = [some ⟨b, 0, none⟩] ∨ l = [some ⟨b, 0, none⟩, none]) (hq : Seq Elem.ptrs w' (.slice a k cap) l) (hk : k ≤ cap) (hc : cap ≤ 9223372036854775807) : Calls Try.prog 16 #[.slice a k cap] w' fun e w2 => e = .returned (.int .i64 n) ∧ OC w b x t n w2 := by
  have hlen := hq.len
  have := C.asked w' h.below l (fun _ => n) hq (by rcases hl with rfl | rfl <;> (rw [hlen]; simp)) hk hc (by
    intro p hp
    have : p = ⟨b, 0, none⟩ := by rcases hl with rfl | rfl <;> simpa using hp
    subst this
    exact ⟨hn, b, 0, x, t, rfl, h.cc⟩)
  have hs : sumI (l.map fun p => p.elim 0 (fun _ => n)) = n := by rcases hl with rfl | rfl <;> simp [sumI]
  rw [hs] at this
  exact this.mono fun e w2 ⟨h1, h2⟩ => ⟨h1, h.grew h2⟩
end
theorem ptr_oneAt (w : World) (t : TypeId) (a : Option Addr) (g : Nat) (hg : g = w.heap.size) : Seq Elem.ptrs (w.alloc (.cells #[.pointer a] t)) (.slice (some ⟨g, 0, none⟩) 1 1) [a] := by
  subst hg; exact Seq.new w t [a] 1
theorem ptr_twoAt (w : World) (t : TypeId) (a a' : Option Addr) (g : Nat) (hg : g = w.heap.size) : Seq Elem.ptrs (w.alloc (.cells #[.pointer a, .pointer a'] t)) (.slice (some ⟨g, 0, none⟩) 2 2) [a, a'] := by
  subst hg; exact Seq.new w t [a, a'] 2
end Go.Proofs.Ytgfinibimdgkfaa
