/- What the laws of layer 9 need of the program's pages (to be proved of the code that landed): the state of a page is told by a predicate of the landed code's own. -/
import Derived.Test.YtlnlipjnljbegaaPageWh
import Derived.Test.YtlnlipjnljbegaaMem3
import Derived.Test.YtlnlipjnljbegaaGeoB
import Derived.Test.YtlnlipjnljbegaaPlaces
namespace Go.Proofs.Ytlnlipjnljbegaa
open Go.RowKit ListMath PageMath GeoMath
set_option linter.unusedVariables false

structure PgC (w0 : World) where
  /-- At block pp a page, its memory at p (bytes in g), its cell at c; O are the blocks that all of it lies in. -/
  Pg : World → (pp p g : Nat) → (Nat → Prop) → Addr → List Nat → PG → Prop
  /-- Of a page whose rows may be anything: how many are used. -/
  Wk : World → (pp : Nat) → Nat → Prop
  mem : ∀ {w pp p g O c L S}, Pg w pp p g O c L S → IsMem w p g L
  good : ∀ {w pp p g O c L S}, Pg w pp p g O c L S → GoodP L S
  num : ∀ {w pp p g O c L S}, Pg w pp p g O c L S → S.cw ≤ 18446744073709551615 ∧ O p ∧ O g ∧ O pp ∧ O c.block ∧ ∀ b, O b → b < w.heap.size
  upd : ∀ {w pp p g O c L S} {w' : World} {T : Nat → Prop}, Pg w pp p g O c L S → Upd T w w' → (∀ b, T b → ¬ O b) → Pg w' pp p g O c L S
  lay : ∀ {w pp p g O c L S} {w' : World} {M : List Nat}, Pg w pp p g O c L S → IsMem w' p g M → Upd (fun b => b = g) w w' → GoodP M S → Pg w' pp p g O c M S
  wkUpd : ∀ {w pp u} {w' : World}, Wk w pp u → Below w.heap.size w w' → Wk w' pp u
  new : ∀ w, Below w0.heap.size w0 w → ∀ {p g : Nat} {L : List Nat} {f s n : Nat}, IsMem w p g L → GoodP L (newPG f s n) →
    Calls Try.prog 12 #[.pointer (some ⟨p, 0, none⟩), runV f s (n : Int)] w fun e w' => ∃ pp c O, e = .returned (.tuple #[.pointer (some ⟨pp, 0, none⟩), .int .i64 0]) ∧ Pg w' pp p g O c L (newPG f s n) ∧ (∀ b, O b → b = p ∨ b = g ∨ w.heap.size ≤ b) ∧ Below w.heap.size w w'
  new_bad : ∀ w, Below w0.heap.size w0 w → ∀ {p g : Nat} {L : List Nat} {f s : Nat} {n : Int}, IsMem w p g L → U64B f → U64B s → I64B n → mayP f s n L.length = false →
    Calls Try.prog 12 #[.pointer (some ⟨p, 0, none⟩), runV f s n] w fun e w' => e = .returned (.tuple #[.pointer none, .int .i64 2]) ∧ Below w.heap.size w w'
  alloc : ∀ w, Below w0.heap.size w0 w → ∀ {pp p g : Nat} {O : Nat → Prop} {c : Addr} {L : List Nat} {S : PG}, Pg w pp p g O c L S →
    Calls Try.prog 22 #[.pointer (some ⟨pp, 0, none⟩)] w fun e w' => e = .returned (.tuple #[.int .u64 ((allocP S).2.1 : Int), .int .i64 (allocP S).2.2]) ∧ ∃ L', Pg w' pp p g O c L' (allocP S).1 ∧ Agree L L' (newsOf S) ∧ Upd O w w'
  alloc_nil : ∀ w, Calls Try.prog 22 #[.pointer none] w fun e w' => e = .returned (.tuple #[.int .u64 0, .int .i64 1]) ∧ Below w.heap.size w w'
  free : ∀ w, Below w0.heap.size w0 w → ∀ {pp p g : Nat} {O : Nat → Prop} {c : Addr} {L : List Nat} {S : PG} {a : Option Addr} {k cap : Nat} {l : List Nat}, Pg w pp p g O c L S → Seq Elem.u64s w (.slice a k cap) l → (∀ b, In (.slice a k cap) b → ¬ O b) → k ≤ cap → cap ≤ 9223372036854775807 → k ≤ 2000 → (∀ x ∈ l, U64B x) → l.Nodup → (∀ x ∈ l, x ∉ S.F ∧ x ∉ S.G) →
    Calls Try.prog 19 #[.pointer (some ⟨pp, 0, none⟩), .slice a k cap] w fun e w' => e = .returned (.int .i64 (freeP S l).2) ∧ ∃ L', Pg w' pp p g O c L' (freeP S l).1 ∧ Agree L L' l ∧ Upd O w w'
  free_bad : ∀ w, Below w0.heap.size w0 w → ∀ {pp p g : Nat} {O : Nat → Prop} {c : Addr} {L : List Nat} {S : PG} {a : Option Addr} {cap x : Nat}, Pg w pp p g O c L S → Seq Elem.u64s w (.slice a 1 cap) [x] → 1 ≤ cap → cap ≤ 9223372036854775807 → U64B x → givenE S x ≠ 0 →
    Calls Try.prog 19 #[.pointer (some ⟨pp, 0, none⟩), .slice a 1 cap] w fun e w' => e = .returned (.int .i64 (givenE S x)) ∧ Below w.heap.size w w'
  cell : ∀ w, Below w0.heap.size w0 w → ∀ {pp p g : Nat} {O : Nat → Prop} {c : Addr} {L : List Nat} {S : PG}, Pg w pp p g O c L S →
    Calls Try.prog 29 #[.pointer (some ⟨pp, 0, none⟩)] w fun e w' => e = .returned (.pointer (some c)) ∧ Below w.heap.size w w'
  load : ∀ w, Below w0.heap.size w0 w → ∀ {pp p g : Nat} {O : Nat → Prop} {c : Addr} {L : List Nat} {S : PG}, Pg w pp p g O c L S → S.ct ≤ 18446744073709551615 →
    Calls Try.prog 30 #[.pointer (some c)] w fun e w' => e = .returned (.tuple #[.int .u64 (S.cw : Int), .int .u64 (S.ct : Int)]) ∧ Pg w' pp p g O c L S.asked ∧ Upd O w w'
  post : ∀ w, Below w0.heap.size w0 w → ∀ {pp p g : Nat} {O : Nat → Prop} {c : Addr} {L : List Nat} {S : PG} {a h t : Nat}, Pg w pp p g O c L S → S.ct ≤ 18446744073709551615 → U64B a → U64B h → U64B t → a ∉ S.F → a ∉ S.G →
    Calls Try.prog 20 #[.pointer (some ⟨pp, 0, none⟩), .int .u64 (a : Int), .int .u64 (h : Int), .int .u64 (t : Int)] w fun e w' => Upd O w w' ∧
      (givenE S a = 0 → e = .returned (.tuple #[.bool (postP S a t).2, .int .i64 0]) ∧ Pg w' pp p g O c (MemMath.put8 L a h) (postP S a t).1) ∧
      (givenE S a ≠ 0 → e = .returned (.tuple #[.bool false, .int .i64 (givenE S a)]) ∧ Pg w' pp p g O c L S)
  gather : ∀ w, Below w0.heap.size w0 w → ∀ {pp p g : Nat} {O : Nat → Prop} {c : Addr} {L P : List Nat} {S : PG}, Pg w pp p g O c L S → chainN L S.cw (S.n : Int) = some P → P.length ≤ S.used → (∀ x ∈ P, IsBlk S.f S.s S.made x ∧ x ∉ S.F ∧ x ∉ S.G) → P.Nodup →
    Calls Try.prog 15 #[.pointer (some ⟨pp, 0, none⟩)] w fun e w' => e = .returned (.tuple #[.int .i64 (P.length : Int), .int .i64 0]) ∧ ∃ L', Pg w' pp p g O c L' (gathP S P) ∧ Agree L L' P ∧ Upd O w w'
  gather_bad : ∀ w, Below w0.heap.size w0 w → ∀ {pp p g : Nat} {O : Nat → Prop} {c : Addr} {L : List Nat} {S : PG}, Pg w pp p g O c L S → (∀ P, chainN L S.cw (S.n : Int) = some P → S.used < P.length) →
    Calls Try.prog 15 #[.pointer (some ⟨pp, 0, none⟩)] w fun e w' => e = .returned (.tuple #[.int .i64 0, .int .i64 3]) ∧ Pg w' pp p g O c L (S.wrote 0) ∧ Upd O w w'
  gather_any : ∀ w, Below w0.heap.size w0 w → ∀ {pp p g : Nat} {O : Nat → Prop} {c : Addr} {L P : List Nat} {S : PG}, Pg w pp p g O c L S → chainN L S.cw (S.n : Int) = some P → P.length ≤ S.used →
    Calls Try.prog 15 #[.pointer (some ⟨pp, 0, none⟩)] w fun e w' => e = .returned (.tuple #[.int .i64 (P.length : Int), .int .i64 0]) ∧ Wk w' pp (S.used - P.length) ∧ Upd O w w'
  wk_used : ∀ w, Below w0.heap.size w0 w → ∀ {pp u : Nat}, Wk w pp u →
    Calls Try.prog 27 #[.pointer (some ⟨pp, 0, none⟩)] w fun e w' => e = .returned (.int .i64 (u : Int)) ∧ Below w.heap.size w w'
  used : ∀ w, Below w0.heap.size w0 w → ∀ {pp p g : Nat} {O : Nat → Prop} {c : Addr} {L : List Nat} {S : PG}, Pg w pp p g O c L S →
    Calls Try.prog 27 #[.pointer (some ⟨pp, 0, none⟩)] w fun e w' => e = .returned (.int .i64 (S.used : Int)) ∧ Below w.heap.size w w'
  made : ∀ w, Below w0.heap.size w0 w → ∀ {pp p g : Nat} {O : Nat → Prop} {c : Addr} {L : List Nat} {S : PG}, Pg w pp p g O c L S →
    Calls Try.prog 28 #[.pointer (some ⟨pp, 0, none⟩)] w fun e w' => e = .returned (.int .i64 (S.made : Int)) ∧ Below w.heap.size w w'
  run : ∀ w, Below w0.heap.size w0 w → ∀ {pp p g : Nat} {O : Nat → Prop} {c : Addr} {L : List Nat} {S : PG}, Pg w pp p g O c L S →
    Calls Try.prog 14 #[.pointer (some ⟨pp, 0, none⟩)] w fun e w' => e = .returned (runV S.f S.s (S.n : Int)) ∧ Below w.heap.size w w'
  lists : ∀ w, Below w0.heap.size w0 w → ∀ {pp p g : Nat} {O : Nat → Prop} {c : Addr} {L P : List Nat} {S : PG}, Pg w pp p g O c L S → chainN L S.cw (S.n : Int) = some P →
    Calls Try.prog 33 #[.pointer (some ⟨pp, 0, none⟩)] w fun e w' => Below w.heap.size w w' ∧ ∃ a1 k1 c1 a2 k2 c2 a3 k3 c3, e = .returned (.tuple #[.slice a1 k1 c1, .slice a2 k2 c2, .slice a3 k3 c3, .int .i64 0]) ∧
      (Seq Elem.u64s w' (.slice a1 k1 c1) S.F ∧ k1 ≤ c1 ∧ c1 ≤ 9223372036854775807 ∧ ∀ b, In (.slice a1 k1 c1) b → w.heap.size ≤ b) ∧ (Seq Elem.u64s w' (.slice a2 k2 c2) S.G ∧ k2 ≤ c2 ∧ c2 ≤ 9223372036854775807 ∧ ∀ b, In (.slice a2 k2 c2) b → w.heap.size ≤ b) ∧ (Seq Elem.u64s w' (.slice a3 k3 c3) P ∧ k3 ≤ c3 ∧ c3 ≤ 9223372036854775807 ∧ ∀ b, In (.slice a3 k3 c3) b → w.heap.size ≤ b)
  asked : ∀ w, Below w0.heap.size w0 w → ∀ {pp p g : Nat} {O : Nat → Prop} {c : Addr} {L : List Nat} {S : PG} {b : Nat}, Pg w pp p g O c L S → S.ca ≤ 1000000000 → w.cell? ⟨b, 0, none⟩ = some (.pointer (some c)) →
    Calls Try.prog 55 #[.slice (some ⟨b, 0, none⟩) 1 1] w fun e w' => e = .returned (.int .i64 (S.ca : Int)) ∧ Below w.heap.size w w'

def PgC.up {w0 w1 : World} (C : PgC w0) (hb : Below w0.heap.size w0 w1) : PgC w1 where
  Pg := C.Pg
  Wk := C.Wk
  mem := C.mem
  good := C.good
  num := C.num
  upd := C.upd
  lay := C.lay
  wkUpd := C.wkUpd
  new w hw := C.new w (below_then hb hb.size hw)
  new_bad w hw := C.new_bad w (below_then hb hb.size hw)
  alloc w hw := C.alloc w (below_then hb hb.size hw)
  alloc_nil := C.alloc_nil
  free w hw := C.free w (below_then hb hb.size hw)
  free_bad w hw := C.free_bad w (below_then hb hb.size hw)
  cell w hw := C.cell w (below_then hb hb.size hw)
  load w hw := C.load w (below_then hb hb.size hw)
  post w hw := C.post w (below_then hb hb.size hw)
  gather w hw := C.gather w (below_then hb hb.size hw)
  gather_bad w hw := C.gather_bad w (below_then hb hb.size hw)
  gather_any w hw := C.gather_any w (below_then hb hb.size hw)
  wk_used w hw := C.wk_used w (below_then hb hb.size hw)
  used w hw := C.used w (below_then hb hb.size hw)
  made w hw := C.made w (below_then hb hb.size hw)
  run w hw := C.run w (below_then hb hb.size hw)
  lists w hw := C.lists w (below_then hb hb.size hw)
  asked w hw := C.asked w (below_then hb hb.size hw)
/-! ### A page of a law's own -/
section
variable {w : World} {C : PgC w}
/-- Since w, the law's first world: its page, its blocks below nb. -/
structure Has (C : PgC w) (pp p g : Nat) (O : Nat → Prop) (nb : Nat) (c : Addr) (L : List Nat) (S : PG) (w' : World) : Prop where
  pg : C.Pg w' pp p g O c L S
  below : Below w.heap.size w w'
  lo : ∀ b, O b → w.heap.size ≤ b ∧ b < nb
  size : nb ≤ w'.heap.size
variable {pp p g nb : Nat} {O : Nat → Prop} {c : Addr} {L L' : List Nat} {S S' : PG} {w' w2 : World}
theorem Has.out (h : Has C pp p g O nb c L S w') {b : Nat} (hb : nb ≤ b) : ¬ O b := fun x => by have := (h.lo b x).2; omega
theorem Has.turn (h : Has C pp p g O nb c L S w') (k : C.Pg w2 pp p g O c L' S') (u : Upd O w' w2) : Has C pp p g O nb c L' S' w2 :=
  ⟨k, h.below.trans (u.below (fun b hb => (h.lo b hb).1) h.below.size), h.lo, Nat.le_trans h.size u.size⟩
theorem Has.upd' {T : Nat → Prop} (h : Has C pp p g O nb c L S w') (u : Upd T w' w2) (hT : ∀ b, T b → ¬ O b ∧ w.heap.size ≤ b) : Has C pp p g O nb c L S w2 :=
  ⟨C.upd h.pg u fun b hb => (hT b hb).1, h.below.trans (u.below (fun b hb => (hT b hb).2) h.below.size), h.lo, Nat.le_trans h.size u.size⟩
theorem Has.upd {T : Nat → Prop} (h : Has C pp p g O nb c L S w') (u : Upd T w' w2) (hn : w.heap.size ≤ nb) (hT : ∀ b, T b → nb ≤ b) : Has C pp p g O nb c L S w2 :=
  h.upd' u fun b hb => ⟨h.out (hT b hb), Nat.le_trans hn (hT b hb)⟩
theorem Has.low (h : Has C pp p g O nb c L S w') : w.heap.size ≤ nb := by have := h.lo _ (C.num h.pg).2.1; omega
theorem Has.grew (h : Has C pp p g O nb c L S w') (hb : Below w'.heap.size w' w2) : Has C pp p g O nb c L S w2 := h.upd' (updFalse_of hb) (fun _ x => x.elim)
theorem Has.drew (h : Has C pp p g O nb c L S w') : Has C pp p g O nb c L S w'.drew := h.grew (Below.refl _ _).drew
theorem Has.alloc (h : Has C pp p g O nb c L S w') (o : Obj) : Has C pp p g O nb c L S (w'.alloc o) := h.grew ((Below.refl _ w').alloc (Nat.le_refl _) o)
theorem Has.setCell (h : Has C pp p g O nb c L S w') {a : Addr} (ha : nb ≤ a.block) (v : Value) : Has C pp p g O nb c L S (w'.setCell a v) :=
  h.upd ((Upd.refl (fun b => b = a.block) w').setCell (.inl rfl) v) h.low (fun b e => e ▸ ha)
/-- What lies beyond the page's blocks is as it was. -/
theorem Has.blk (h : Has C pp p g O nb c L S w') (u : Upd O w' w2) {b : Nat} {t : TypeId} {cs : Array Value} (k : Blk w' b t cs) (hb : nb ≤ b) : Blk w2 b t cs := k.upd u (h.out hb)
theorem Has.seq {α : Type} {E : Elem α} (h : Has C pp p g O nb c L S w') (u : Upd O w' w2) {v : Value} {l : List α} (k : Seq E w' v l) (hb : ∀ b, In v b → nb ≤ b) : Seq E w2 v l := k.upd u (fun k hk => h.out (hb k hk))
theorem Has.vec {α : Type} {E : Elem α} (h : Has C pp p g O nb c L S w') (u : Upd O w' w2) {v : Value} {l : List α} (k : Vec E w' v l) (hb : ∀ b, In v b → nb ≤ b) : Vec E w2 v l := k.upd u (fun k hk => h.out (hb k hk))
end
end Go.Proofs.Ytlnlipjnljbegaa
