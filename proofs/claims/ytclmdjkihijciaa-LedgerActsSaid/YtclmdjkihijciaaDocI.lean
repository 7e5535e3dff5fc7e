/- Both ledgers side by side. -/
import Derived.Test.YtclmdjkihijciaaDocG
import Derived.Test.YtclmdjkihijciaaDocH
import Derived.Test.YtclmdjkihijciaaLaw15
namespace Go.Proofs.Ytclmdjkihijciaa
open Go.RowKit LedMath
set_option linter.unusedVariables false

/-- The landed ledger and the document's, since w0: what each may write is T, is U, apart. -/
structure PL (w0 : World) (lb mb : Nat) (T U : Nat → Prop) (L M : List En) (w : World) : Prop where
  led : Led w lb T L
  doc : DL w mb U M
  ap : ∀ k, T k → ¬ U k
  below : Below w0.heap.size w0 w
  hiT : ∀ k, T k → w0.heap.size ≤ k
  hiU : ∀ k, U k → w0.heap.size ≤ k
theorem PL.grew {w0 w w' : World} {lb mb : Nat} {T U : Nat → Prop} {L M : List En} (h : PL w0 lb mb T U L M w) (hb : Below w.heap.size w w') : PL w0 lb mb T U L M w' := ⟨h.led.below hb, h.doc.below hb, h.ap, below_then h.below h.below.size hb, h.hiT, h.hiU⟩
/-- The landed one is turned. -/
theorem PL.one {w0 w w' : World} {lb mb : Nat} {T U : Nat → Prop} {L L' M : List En} (h : PL w0 lb mb T U L M w) (k : Led w' lb (Grown T w) L') (u : Upd T w w') : PL w0 lb mb (Grown T w) (fun k => U k ∧ k < w.heap.size) L' M w' :=
  ⟨k, (h.doc.mono fun k hk hu => ⟨hu, hk⟩).upd u fun k hu ht => h.ap k ht hu.1, fun k ht hu => ht.elim (fun h' => h.ap k h' hu.1) fun h' => by have := hu.2; omega, h.below.trans (u.below h.hiT h.below.size), fun k hk => hk.elim (h.hiT k) fun h' => Nat.le_trans h.below.size h', fun k hk => h.hiU k hk.1⟩
/-- The document's is turned. -/
theorem PL.two {w0 w w' : World} {lb mb : Nat} {T U : Nat → Prop} {L M M' : List En} (h : PL w0 lb mb T U L M w) (k : DL w' mb (fun k => U k ∨ w.heap.size ≤ k) M') (u : Upd U w w') : PL w0 lb mb (fun k => T k ∧ k < w.heap.size) (fun k => U k ∨ w.heap.size ≤ k) L M' w' :=
  ⟨(h.led.mono fun k hk ht => ⟨ht, hk⟩).upd u fun k ht hu => h.ap k ht.1 hu, k, fun k ht hu => hu.elim (h.ap k ht.1) fun h' => by have := ht.2; omega, h.below.trans (u.below h.hiU h.below.size), fun k hk => h.hiT k hk.1, fun k hk => hk.elim (h.hiU k) fun h' => Nat.le_trans h.below.size h'⟩
theorem PL.mono {w0 w : World} {lb mb : Nat} {T U T' U' : Nat → Prop} {L M : List En} (h : PL w0 lb mb T U L M w) (hT : ∀ k, k < w.heap.size → T k → T' k) (hU : ∀ k, k < w.heap.size → U k → U' k) (ap : ∀ k, T' k → ¬ U' k) (iT : ∀ k, T' k → w0.heap.size ≤ k) (iU : ∀ k, U' k → w0.heap.size ≤ k) : PL w0 lb mb T' U' L M w := ⟨h.led.mono hT, h.doc.mono hU, ap, h.below, iT, iU⟩
/-- With an act, boxed, whose numbers lie in what was there before. -/
structure DB (w0 : World) (lb mb q : Nat) (cs : Array Value) (sl : Value) (xs : List Nat) (T U : Nat → Prop) (L M : List En) (w : World) : Prop where
  pl : PL w0 lb mb T U L M w
  bx : Blk w q 38 cs
  nT : ¬ T q
  nU : ¬ U q
  sq : Seq Elem.u64s w sl xs
  lo : 0 < xs.length → ∀ k, In sl k → k < w0.heap.size
theorem seq_keep {w w' : World} {v : Value} {l : List Nat} {S : Nat → Prop} (h : Seq Elem.u64s w v l) (u : Upd S w w') (hs : 0 < l.length → ∀ k, In v k → ¬ S k) : Seq Elem.u64s w' v l := by
  by_cases h0 : 0 < l.length
  · exact h.upd u (hs h0)
  · obtain rfl := List.length_eq_zero_iff.1 (by omega : l.length = 0)
    rcases h with ⟨b, off, cap, e, _⟩ | ⟨_, k⟩
    · exact .inl ⟨b, off, cap, e, fun j u hj => by simp [Elem.all] at hj⟩
    · exact .inr ⟨rfl, k⟩
section
variable {w0 w w' : World} {lb mb q : Nat} {cs : Array Value} {sl : Value} {xs : List Nat} {T U : Nat → Prop} {L L' M M' : List En}
theorem DB.grew (h : DB w0 lb mb q cs sl xs T U L M w) (hb : Below w.heap.size w w') : DB w0 lb mb q cs sl xs T U L M w' :=
  ⟨h.pl.grew hb, h.bx.upd (updFalse_of hb) id, h.nT, h.nU, h.sq.upd (updFalse_of hb) fun _ _ => id, h.lo⟩
theorem DB.drew (h : DB w0 lb mb q cs sl xs T U L M w) : DB w0 lb mb q cs sl xs T U L M w.drew := h.grew (Below.refl _ w).drew
theorem DB.one (h : DB w0 lb mb q cs sl xs T U L M w) (k : Led w' lb (Grown T w) L') (u : Upd T w w') : DB w0 lb mb q cs sl xs (Grown T w) (fun k => U k ∧ k < w.heap.size) L' M w' :=
  ⟨h.pl.one k u, h.bx.upd u h.nT, fun hh => hh.elim h.nT fun h' => by have := h.bx.lt; omega, fun hh => h.nU hh.1, seq_keep h.sq u fun h0 k hk ht => by have := h.lo h0 k hk; have := h.pl.hiT k ht; omega, h.lo⟩
theorem DB.two (h : DB w0 lb mb q cs sl xs T U L M w) (k : DL w' mb (fun k => U k ∨ w.heap.size ≤ k) M') (u : Upd U w w') : DB w0 lb mb q cs sl xs (fun k => T k ∧ k < w.heap.size) (fun k => U k ∨ w.heap.size ≤ k) L M' w' :=
  ⟨h.pl.two k u, h.bx.upd u h.nU, fun hh => h.nT hh.1, fun hh => hh.elim h.nU fun h' => by have := h.bx.lt; omega, seq_keep h.sq u fun h0 k hk ht => by have := h.lo h0 k hk; have := h.pl.hiU k ht; omega, h.lo⟩
end
end Go.Proofs.Ytclmdjkihijciaa
