/- What the laws of layer 7 need of the program's lists, at any place of any block (to be proved of the code that landed); a list in a block of its own is one of them. -/
import Derived.Test.YtmnnmgphiiedgaaListCl
import Derived.Test.YtmnnmgphiiedgaaPlaces
import Derived.Test.YtmnnmgphiiedgaaPushMath
namespace Go.Proofs.Ytmnnmgphiiedgaa
open Go.RowKit ListMath
set_option linter.unusedVariables false

/-- A memory, and a list somewhere. -/
structure PL (w : World) (p g lp o : Nat) (s : LS) : Prop where
  mem : IsMem w p g s.L
  lst : LCell w lp o s.h s.n
  np : lp ≠ p
  ng : lp ≠ g
def joinG (L : List Nat) (lh oh : Nat) (ln on : Int) : LS × LS := (joinN L lh ln oh on).getD (⟨L, lh, ln⟩, ⟨L, oh, on⟩)
/-- Two lists' places don't meet. -/
def Apart2 (lp o op o2 : Nat) : Prop := lp ≠ op ∨ o + 2 ≤ o2 ∨ o2 + 2 ≤ o
structure LiG (w0 : World) : Prop where
  push : ∀ w, Below w0.heap.size w0 w → ∀ {p g lp o : Nat} {s : LS} {a : Option Addr} {k cap : Nat} {l : List Nat}, PL w p g lp o s → Seq Elem.u64s w (.slice a k cap) l → (0 < k → ∀ b, In (.slice a k cap) b → b ≠ g ∧ b ≠ lp) → k ≤ cap → cap ≤ 9223372036854775807 → (∀ x ∈ l, U64B x) → k ≤ 100000 → U64B s.h → CntB s.n →
    Calls Try.prog 24 #[.pointer (some ⟨lp, o, none⟩), .pointer (some ⟨p, 0, none⟩), .slice a k cap] w fun e w' => e = .returned (.int .i64 (pushN s l).2) ∧ PL w' p g lp o (pushN s l).1 ∧ Wrt (fun b => b = g) (LPl lp o) w w'
  push_nil : ∀ w, Below w0.heap.size w0 w → ∀ {p g : Nat} {L : List Nat}, IsMem w p g L → Calls Try.prog 24 #[.pointer none, .pointer (some ⟨p, 0, none⟩), .slice none 0 0] w fun e w' => e = .returned (.int .i64 1) ∧ Below w.heap.size w w'
  pop : ∀ w, Below w0.heap.size w0 w → ∀ {p g lp o : Nat} {s : LS}, PL w p g lp o s → U64B s.h → CntB s.n →
    Calls Try.prog 13 #[.pointer (some ⟨lp, o, none⟩), .pointer (some ⟨p, 0, none⟩)] w fun e w' => e = .returned (.tuple #[.int .u64 ((popN s).2.1 : Int), .int .i64 (popN s).2.2]) ∧ PL w' p g lp o (popN s).1 ∧ Wrt (fun _ => False) (LPl lp o) w w'
  all : ∀ w, Below w0.heap.size w0 w → ∀ {p g lp o : Nat} {s : LS}, IsMem w p g s.L → LCell w lp o s.h s.n → U64B s.h → CntB s.n →
    Calls Try.prog 15 #[.pointer (some ⟨lp, o, none⟩), .pointer (some ⟨p, 0, none⟩)] w fun e w' => ∃ a k cap, e = .returned (.tuple #[.slice a k cap, .int .i64 (if (allN s).isSome then 0 else 3)]) ∧ Seq Elem.u64s w' (.slice a k cap) ((allN s).getD []) ∧ k ≤ cap ∧ cap ≤ 9223372036854775807 ∧ (∀ b, In (.slice a k cap) b → w.heap.size ≤ b) ∧ Below w.heap.size w w'
  join : ∀ w, Below w0.heap.size w0 w → ∀ {p g lp o op o2 : Nat} {L : List Nat} {lh oh : Nat} {ln on : Int}, IsMem w p g L → LCell w lp o lh ln → LCell w op o2 oh on → (lp ≠ p ∧ op ≠ p) → (lp ≠ g ∧ op ≠ g) → Apart2 lp o op o2 → U64B lh → U64B oh → CntB ln → CntB on →
    Calls Try.prog 18 #[.pointer (some ⟨lp, o, none⟩), .pointer (some ⟨p, 0, none⟩), .pointer (some ⟨op, o2, none⟩)] w fun e w' => e = .returned (.int .i64 (if (joinN L lh ln oh on).isSome then 0 else 3)) ∧
      IsMem w' p g (joinG L lh oh ln on).1.L ∧ LCell w' lp o (joinG L lh oh ln on).1.h (joinG L lh oh ln on).1.n ∧ LCell w' op o2 (joinG L lh oh ln on).2.h (joinG L lh oh ln on).2.n ∧ Wrt (fun b => b = g) (fun b i => LPl lp o b i ∨ LPl op o2 b i) w w'
  join_self : ∀ w, Below w0.heap.size w0 w → ∀ {p g lp o : Nat} {L : List Nat} {lh : Nat} {ln : Int}, IsMem w p g L → LCell w lp o lh ln →
    Calls Try.prog 18 #[.pointer (some ⟨lp, o, none⟩), .pointer (some ⟨p, 0, none⟩), .pointer (some ⟨lp, o, none⟩)] w fun e w' => e = .returned (.int .i64 2) ∧ Below w.heap.size w w'
  chain : ∀ w, Below w0.heap.size w0 w → ∀ {p g : Nat} {L : List Nat} {h : Nat} {m : Int}, IsMem w p g L → U64B h → -9223372036854775808 ≤ m → m ≤ 9223372036854775807 →
    Calls Try.prog 22 #[.pointer (some ⟨p, 0, none⟩), .int .u64 (h : Int), .int .i64 m] w fun e w' => e = .returned (.tuple #[.agg (if (chainN L h m).isSome then lsC h (((chainN L h m).getD []).length : Int) else lsC 0 0), .int .i64 (if (chainN L h m).isSome then 0 else 3)]) ∧ Below w.heap.size w w'
theorem blk_one {w : World} {b : Nat} {t t' : TypeId} {cs cs' : Array Value} (h : Blk w b t cs) (k : Blk w b t' cs') : cs = cs' := by
  unfold Blk at h k; rw [h] at k; injection k with k; injection k
theorem lsC_of {S : Nat → Prop} {C : Nat → Nat → Prop} {w w' : World} {lp h h' : Nat} {n n' : Int} {t : TypeId} (b : Blk w lp t (lsC h n)) (W : Wrt S C w w') (hs : ¬ S lp) (l : LCell w' lp 0 h' n') : Blk w' lp t (lsC h' n') := by
  obtain ⟨cs', b', hsz, _⟩ := W.blk lp hs t _ b
  obtain ⟨t1, cs1, b1, e1, e2⟩ := l
  have := blk_one b1 b'
  subst this
  have hcs : cs1 = lsC h' n' := by
    apply Array.ext_getElem?
    intro i
    rcases Nat.lt_or_ge i 2 with hi | hi
    · have : i = 0 ∨ i = 1 := by omega
      rcases this with rfl | rfl
      · exact e1
      · exact e2
    · rw [Array.getElem?_eq_none (by rw [hsz]; exact hi), Array.getElem?_eq_none (by exact hi)]
  rw [← hcs]; exact b'
theorem cell_lsC {w : World} {lp h : Nat} {n : Int} {t : TypeId} (b : Blk w lp t (lsC h n)) : LCell w lp 0 h n := ⟨t, _, b, rfl, rfl⟩
theorem li_of {w0 : World} (C : LiG w0) : Li w0 where
  push w hw {p g lp s a k cap l} hm hl hq hne hk hcap hx hk2 hh hn := by
    have pn := hm.pnl hl
    refine (C.push w hw (o := 0) ⟨hm, cell_lsC hl, pn.1, pn.2⟩ hq (fun _ => hne) hk hcap hx hk2 hh hn).mono fun e w' ⟨h1, h2, h3⟩ => ⟨h1, h2.mem, lsC_of hl h3 pn.2 h2.lst, h3.upd.mono fun b hb => ?_⟩
    rcases hb with hb | ⟨i, hb, _⟩
    · exact Or.inl hb
    · exact Or.inr hb
  push_nil w hw {p g L} hm := C.push_nil w hw hm
  pop w hw {p g lp s} hm hl hh hn := by
    have pn := hm.pnl hl
    refine (C.pop w hw (o := 0) ⟨hm, cell_lsC hl, pn.1, pn.2⟩ hh hn).mono fun e w' ⟨h1, h2, h3⟩ => ⟨h1, lsC_of hl h3 id h2.lst, h3.upd.mono fun b hb => ?_⟩
    rcases hb with hb | ⟨i, hb, _⟩
    · exact hb.elim
    · exact hb
  all w hw {p g lp s} hm hl hh hn := C.all w hw hm (cell_lsC hl) hh hn
  join w hw {p g lp op L lh oh ln on} hm hl ho hne h1 h2 h3 h4 := by
    have pn := hm.pnl hl
    have pn2 := hm.pnl ho
    refine (C.join w hw (o := 0) (o2 := 0) hm (cell_lsC hl) (cell_lsC ho) ⟨pn.1, pn2.1⟩ ⟨pn.2, pn2.2⟩ (Or.inl hne) h1 h2 h3 h4).mono fun e w' ⟨a1, a2, a3, a4, a5⟩ => ⟨a1, a2, lsC_of hl a5 pn.2 a3, lsC_of ho a5 pn2.2 a4, a5.upd.mono fun b hb => ?_⟩
    rcases hb with hb | ⟨i, ⟨hb, _⟩ | ⟨hb, _⟩⟩
    · exact Or.inl hb
    · exact Or.inr (Or.inl hb)
    · exact Or.inr (Or.inr hb)
  join_self w hw {p g lp L lh ln} hm hl := C.join_self w hw hm (cell_lsC hl)
  chain w hw {p g L h m} hm h1 h2 h3 := C.chain w hw hm h1 h2 h3
end Go.Proofs.Ytmnnmgphiiedgaa
