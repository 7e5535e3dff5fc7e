/- Layer 7: two lists of a law's own in one memory. -/
import Derived.Test.YtmnnmgphiiedgaaList7
namespace Go.Proofs.Ytmnnmgphiiedgaa.ListMath
open MemMath
set_option linter.unusedVariables false

/-- A chain that the pushed blocks don't touch stays. -/
theorem pushN_keeps : ∀ (l : List Nat) (s : LS) {h : Nat} {r : List Nat}, Chain s.L h r → (∀ a ∈ l, ∀ b ∈ r, Apart8 a b) → Chain (pushN s l).1.L h r
  | [], s, _, _, hc, _ => hc
  | a :: t, s, h, r, hc, hd => by
    unfold pushN
    have h1 : Chain (push1 s a).1.L h r := by
      unfold push1
      split
      · exact hc
      · split
        · rename_i h8; exact hc.put h8 (hd a (List.mem_cons_self ..))
        · exact hc
    split
    · exact pushN_keeps t _ h1 (fun b hb => hd b (List.mem_cons_of_mem _ hb))
    · exact h1
theorem lastD_snoc (o : List Nat) (z : Nat) : lastD (o ++ [z]) = z := by unfold lastD; simp
theorem join_good {L : List Nat} {lh oh : Nat} {ln on : Int} {l o : List Nat} (hl : Chain L lh l) (ho : Chain L oh o) (hd : ∀ a ∈ o, ∀ b ∈ l, Apart8 a b) (ho2 : o.Pairwise Apart8) (hL : L.length ≤ 1048576) (hon : on = (o.length : Int)) (hol : o.length ≤ L.length) (hln : ln = (l.length : Int)) :
    ∃ M h, joinN L lh ln oh on = some (⟨M, h, ((o ++ l).length : Int)⟩, ⟨M, 0, 0⟩) ∧ Chain M h (o ++ l) ∧ M.length = L.length := by
  have e := allN_chain (s := ⟨L, oh, on⟩) ho hon hol
  rcases List.eq_nil_or_concat o with rfl | ⟨q, z, rfl⟩
  · refine ⟨L, lh, ?_, hl, rfl⟩
    unfold joinN; rw [e]; simp [hln]
  · rw [List.concat_eq_append] at *
    have hz8 : z + 8 ≤ L.length := by
      have := Chain.drop q.length ho z (by simp)
      rw [List.drop_left] at this
      exact this.2.2.1
    refine ⟨put8 L z lh, oh, ?_, ?_, length_put8 hz8⟩
    · unfold joinN
      rw [e]
      cases q with
      | nil => simp [lastD, hln, hon]
      | cons b t =>
        have := lastD_snoc (b :: t) z
        simp only [List.cons_append] at this ⊢
        simp only [this, hln, hon]
        simp only [List.length_cons, List.length_append, List.length_nil]
        congr 3
        omega
    · refine Chain.join hz8 (by have := hl.head_le hL; omega) hl (hd z (by simp)) ho ?_
      intro b hb
      have := (List.pairwise_append.1 ho2).2.2 b hb z (by simp)
      unfold Apart8 at this ⊢; omega
end Go.Proofs.Ytmnnmgphiiedgaa.ListMath
namespace Go.Proofs.Ytmnnmgphiiedgaa
open Go.RowKit ListMath
set_option linter.unusedVariables false
structure Two (w : World) (p g lx ly : Nat) (L : List Nat) (hx : Nat) (nx : Int) (hy : Nat) (ny : Int) (w' : World) : Prop where
  mem : IsMem w' p g L
  bx : Blk w' lx 33 (lsC hx nx)
  by' : Blk w' ly 33 (lsC hy ny)
  fg : w.heap.size ≤ g
  fx : w.heap.size ≤ lx
  fy : w.heap.size ≤ ly
  ne : lx ≠ ly
  below : Below w.heap.size w w'
theorem Two.grew {w w' w2 : World} {p g lx ly hx hy : Nat} {L : List Nat} {nx ny : Int} (h : Two w p g lx ly L hx nx hy ny w') (hb : Below w'.heap.size w' w2) : Two w p g lx ly L hx nx hy ny w2 :=
  ⟨h.mem.upd (updFalse_of hb) id id, h.bx.grew hb, h.by'.grew hb, h.fg, h.fx, h.fy, h.ne, below_then h.below h.below.size hb⟩
theorem One.two {w w1 : World} {p g lx : Nat} {L : List Nat} {h : Nat} {n : Int} (o : One w p g lx ⟨L, h, n⟩ w1) (ly : Nat) (hly : ly = w1.heap.size) : Two w p g lx ly L h n 0 0 (w1.alloc (.cells #[.int .u64 0, .int .i64 0] 33)) := by
  subst hly
  have o2 := o.alloc (.cells #[.int .u64 0, .int .i64 0] 33)
  exact ⟨o2.mem, o2.lst, Blk.new w1 _ _, o.fg, o.fl, o.below.size, by have := o.lst.lt; omega, o2.below⟩
theorem Two.pushX {w : World} (C : Li w) {w' : World} {p g lx ly hx hy : Nat} {L : List Nat} {nx ny : Int} (h : Two w p g lx ly L hx nx hy ny w') {a : Option Addr} {k cap : Nat} {l r : List Nat} (hq : Seq Elem.u64s w' (.slice a k cap) l) (hin : ∀ b, In (.slice a k cap) b → b ≠ g ∧ b ≠ lx) (hk : k ≤ cap) (hcap : cap ≤ 9223372036854775807)
    (hc : Chain L hx r) (hL : L.length ≤ 1048576) (h1 : ∀ a ∈ l, a ≠ 0 ∧ a + 8 ≤ L.length) (h2 : ∀ a ∈ l, ∀ b ∈ r, Apart8 a b) (h3 : l.Pairwise Apart8) (hn : CntB nx) (hl : l.length ≤ 100000) :
    Calls Try.prog 24 #[.pointer (some ⟨lx, 0, none⟩), .pointer (some ⟨p, 0, none⟩), .slice a k cap] w' fun e w2 => e = .returned (.int .i64 0) ∧ Two w p g lx ly (pushN ⟨L, hx, nx⟩ l).1.L (pushN ⟨L, hx, nx⟩ l).1.h (pushN ⟨L, hx, nx⟩ l).1.n hy ny w2 ∧ Upd (fun b => b = g ∨ b = lx) w' w2 := by
  obtain ⟨e1, e2, e3, e4⟩ := pushN_good l ⟨L, hx, nx⟩ r hc hL h1 h2 h3
  have hlen := hq.len
  have := C.push w' h.below (s := ⟨L, hx, nx⟩) h.mem h.bx hq hin hk hcap (fun x hx => by have := (h1 x hx).2; show x ≤ 18446744073709551615; omega) (by omega) (by have := hc.head_le hL; show hx ≤ 18446744073709551615; omega) hn
  rw [e1] at this
  refine this.mono fun e w2 ⟨he, hm, hb, hu⟩ => ⟨he, ⟨hm, hb, h.by'.upd hu ?_, h.fg, h.fx, h.fy, h.ne, h.below.trans (hu.below (fun b hb => by rcases hb with rfl | rfl; exact h.fg; exact h.fx) h.below.size)⟩, hu⟩
  rintro (e | e)
  · exact (h.mem.pnl h.by').2 e
  · exact h.ne e.symm
theorem Two.pushY {w : World} (C : Li w) {w' : World} {p g lx ly hx hy : Nat} {L : List Nat} {nx ny : Int} (h : Two w p g lx ly L hx nx hy ny w') {a : Option Addr} {k cap : Nat} {l r : List Nat} (hq : Seq Elem.u64s w' (.slice a k cap) l) (hin : ∀ b, In (.slice a k cap) b → b ≠ g ∧ b ≠ ly) (hk : k ≤ cap) (hcap : cap ≤ 9223372036854775807)
    (hc : Chain L hy r) (hL : L.length ≤ 1048576) (h1 : ∀ a ∈ l, a ≠ 0 ∧ a + 8 ≤ L.length) (h2 : ∀ a ∈ l, ∀ b ∈ r, Apart8 a b) (h3 : l.Pairwise Apart8) (hn : CntB ny) (hl : l.length ≤ 100000) :
    Calls Try.prog 24 #[.pointer (some ⟨ly, 0, none⟩), .pointer (some ⟨p, 0, none⟩), .slice a k cap] w' fun e w2 => e = .returned (.int .i64 0) ∧ Two w p g lx ly (pushN ⟨L, hy, ny⟩ l).1.L hx nx (pushN ⟨L, hy, ny⟩ l).1.h (pushN ⟨L, hy, ny⟩ l).1.n w2 ∧ Upd (fun b => b = g ∨ b = ly) w' w2 := by
  have := Two.pushX C (lx := ly) (ly := lx) ⟨h.mem, h.by', h.bx, h.fg, h.fy, h.fx, h.ne.symm, h.below⟩ hq hin hk hcap hc hL h1 h2 h3 hn hl
  exact this.mono fun e w2 ⟨he, t, hu⟩ => ⟨he, ⟨t.mem, t.by', t.bx, t.fg, t.fy, t.fx, t.ne.symm, t.below⟩, hu⟩
theorem all_at {w : World} (C : Li w) {L : List Nat} {h : Nat} {n : Int} {r : List Nat} (hc : Chain L h r) (hL : L.length ≤ 1048576) (hn : n = (r.length : Int)) (hr : r.length ≤ L.length) {p g lp : Nat} (w' : World) (hw : Below w.heap.size w w') (hm : IsMem w' p g L) (hl : Blk w' lp 33 (lsC h n)) :
    Calls Try.prog 15 #[.pointer (some ⟨lp, 0, none⟩), .pointer (some ⟨p, 0, none⟩)] w' fun e w2 => ∃ a cap, e = .returned (.tuple #[.slice a r.length cap, .int .i64 0]) ∧ Seq Elem.u64s w2 (.slice a r.length cap) r ∧ r.length ≤ cap ∧ cap ≤ 9223372036854775807 ∧ (∀ b, In (.slice a r.length cap) b → w'.heap.size ≤ b) ∧ Below w'.heap.size w' w2 := by
  have hall : allN ⟨L, h, n⟩ = some r := allN_chain hc hn hr
  have := C.all w' hw (s := ⟨L, h, n⟩) hm hl (by have := hc.head_le hL; show h ≤ 18446744073709551615; omega) ⟨by show 0 ≤ n; omega, by show n ≤ _; omega⟩
  rw [hall] at this
  refine this.mono fun e w2 ⟨a, k, cap, h1, h2, h3, h4, h5, h6⟩ => ?_
  have hk := h2.len
  simp only [Option.getD_some] at hk h2
  subst hk
  exact ⟨a, cap, h1, h2, h3, h4, h5, h6⟩
theorem Two.join {w : World} (C : Li w) {w' : World} {p g lx ly hx hy : Nat} {L : List Nat} {nx ny : Int} (h : Two w p g lx ly L hx nx hy ny w') {l o : List Nat} (hl : Chain L hx l) (ho : Chain L hy o) (hd : ∀ a ∈ o, ∀ b ∈ l, Apart8 a b) (ho2 : o.Pairwise Apart8) (hL : L.length ≤ 1048576) (hny : ny = (o.length : Int)) (hol : o.length ≤ L.length) (hnx : nx = (l.length : Int)) (hll : l.length ≤ 100000) :
    ∃ M z, Chain M z (o ++ l) ∧ M.length = L.length ∧ Calls Try.prog 18 #[.pointer (some ⟨lx, 0, none⟩), .pointer (some ⟨p, 0, none⟩), .pointer (some ⟨ly, 0, none⟩)] w' fun e w2 => e = .returned (.int .i64 0) ∧ Two w p g lx ly M z ((o ++ l).length : Int) 0 0 w2 ∧ Upd (fun b => b = g ∨ b = lx ∨ b = ly) w' w2 := by
  obtain ⟨M, z, e, hc, hM⟩ := join_good hl ho hd ho2 hL hny hol hnx
  refine ⟨M, z, hc, hM, ?_⟩
  have := C.join w' h.below h.mem h.bx h.by' h.ne (by have := hl.head_le hL; show hx ≤ 18446744073709551615; omega) (by have := ho.head_le hL; show hy ≤ 18446744073709551615; omega) ⟨by omega, by omega⟩ ⟨by omega, by omega⟩
  rw [e] at this
  exact this.mono fun e w2 ⟨he, hm, hb1, hb2, hu⟩ => ⟨he, ⟨hm, hb1, hb2, h.fg, h.fx, h.fy, h.ne, h.below.trans (hu.below (fun b hb => by rcases hb with rfl | rfl | rfl; exact h.fg; exact h.fx; exact h.fy) h.below.size)⟩, hu⟩
/-- s[:k] and s[k:] -/
theorem run_cut_to {α : Type} {E : Elem α} {P : Program} (t : TypeId) (ht : P.underlying t = some (.slice (P.elem t))) (hsz : ∀ w, (sizeOf (P.elem t)).run P w = .ok E.size w) (a : Option Addr) (n cap k : Nat) (hk : k ≤ cap) (w : World) :
    (Instr.slice t (.slice a n cap) none (some (.int .i64 (k : Int))) none).run P w = .ok (.slice a k cap) w := by
  rw [run_slice_h (P := P) (w := w) t a n cap ht .i64 (k : Int) (by omega) (by omega), hsz]
  simp only [Result.andThen_ok, sliced, Int.toNat_natCast, Nat.sub_zero, addr_at0, ite_self]
theorem Seq.take {α : Type} {E : Elem α} {w : World} {a : Option Addr} {n cap k : Nat} {l : List α} (h : Seq E w (.slice a n cap) l) (hk : k ≤ n) : Seq E w (.slice a k cap) (l.take k) := by
  obtain rfl := h.len
  rcases h with ⟨b, off, c, e, hc⟩ | ⟨rfl, a', c, e, hac⟩
  · injection e with e1 _ e3
    subst e1 e3
    have hl : (l.take k).length = k := by simp; omega
    refine .inl ⟨b, off, cap, by rw [hl], fun j u hj => hc j u ?_⟩
    rw [E.all_take] at hj
    have hjk : j < k * E.size := by have := (List.getElem?_eq_some_iff.1 hj).1; rw [List.length_take] at this; omega
    rwa [List.getElem?_take_of_lt hjk] at hj
  · injection e with e1 _ e3
    subst e1 e3
    have : k = 0 := by simpa using hk
    subst this
    exact .inr ⟨by simp, a, cap, rfl, hac⟩
theorem run_cut_from {α : Type} {E : Elem α} {P : Program} (w0 : World) (t : TypeId) (ht : P.underlying t = some (.slice (P.elem t))) (hsz : ∀ w, (sizeOf (P.elem t)).run P w = .ok E.size w) (a : Option Addr) (n cap k : Nat) (hk : k ≤ n) (hn : n ≤ cap) :
    ∃ a2, (∀ w, (Instr.slice t (.slice a n cap) (some (.int .i64 (k : Int))) none none).run P w = .ok (.slice a2 (n - k) (cap - k)) w) ∧ (∀ b, In (.slice a2 (n - k) (cap - k)) b → In (.slice a n cap) b) ∧ ∀ w l, Seq E w (.slice a n cap) l → Seq E w (.slice a2 (n - k) (cap - k)) (l.drop k) := by
  obtain ⟨sv, h1, h2, h3, _⟩ := cut_from (E := E) t ht hsz a n cap k hk hn
  have h4 := h1 w0
  rw [run_slice_l (P := P) (w := w0) t a n cap ht .i64 (k : Int) (by omega) (by omega), hsz] at h4
  simp only [Result.andThen_ok, Int.toNat_natCast] at h4
  injection h4 with h4 _
  obtain ⟨a2, e⟩ : ∃ a2, sliced a k n cap E.size = .slice a2 (n - k) (cap - k) := by unfold sliced; split <;> exact ⟨_, rfl⟩
  rw [e] at h4
  subst h4
  exact ⟨a2, h1, h2, h3⟩
theorem Two.pushX_ok {w : World} (C : Li w) {L : List Nat} {hx : Nat} {nx : Int} {l r : List Nat} (hc : Chain L hx r) (hL : L.length ≤ 1048576) (h1 : ∀ a ∈ l, a ≠ 0 ∧ a + 8 ≤ L.length) (h2 : ∀ a ∈ l, ∀ b ∈ r, Apart8 a b) (h3 : l.Pairwise Apart8) (hn : CntB nx) (hl : l.length ≤ 100000) :
    ∃ M z, Chain M z (l.reverse ++ r) ∧ M.length = L.length ∧ (∀ {h : Nat} {r' : List Nat}, Chain L h r' → (∀ a ∈ l, ∀ b ∈ r', Apart8 a b) → Chain M h r') ∧ ∀ {p g lx ly hy : Nat} {ny : Int} (w' : World), Two w p g lx ly L hx nx hy ny w' → ∀ {a : Option Addr} {k cap : Nat}, Seq Elem.u64s w' (.slice a k cap) l → (∀ b, In (.slice a k cap) b → b ≠ g ∧ b ≠ lx) → k ≤ cap → cap ≤ 9223372036854775807 →
      Calls Try.prog 24 #[.pointer (some ⟨lx, 0, none⟩), .pointer (some ⟨p, 0, none⟩), .slice a k cap] w' fun e w2 => e = .returned (.int .i64 0) ∧ Two w p g lx ly M z (nx + l.length) hy ny w2 ∧ Upd (fun b => b = g ∨ b = lx) w' w2 := by
  obtain ⟨e1, e2, e3, e4⟩ := pushN_good l ⟨L, hx, nx⟩ r hc hL h1 h2 h3
  refine ⟨_, _, e2, e4, fun hc' hd => pushN_keeps l ⟨L, hx, nx⟩ hc' hd, ?_⟩
  intro p g lx ly hy ny w' t a k cap hq hin hk hcap
  have := t.pushX C hq hin hk hcap hc hL h1 h2 h3 hn hl
  rw [e3] at this
  exact this
theorem Two.pushY_ok {w : World} (C : Li w) {L : List Nat} {hy : Nat} {ny : Int} {l r : List Nat} (hc : Chain L hy r) (hL : L.length ≤ 1048576) (h1 : ∀ a ∈ l, a ≠ 0 ∧ a + 8 ≤ L.length) (h2 : ∀ a ∈ l, ∀ b ∈ r, Apart8 a b) (h3 : l.Pairwise Apart8) (hn : CntB ny) (hl : l.length ≤ 100000) :
    ∃ M z, Chain M z (l.reverse ++ r) ∧ M.length = L.length ∧ (∀ {h : Nat} {r' : List Nat}, Chain L h r' → (∀ a ∈ l, ∀ b ∈ r', Apart8 a b) → Chain M h r') ∧ ∀ {p g lx ly hx : Nat} {nx : Int} (w' : World), Two w p g lx ly L hx nx hy ny w' → ∀ {a : Option Addr} {k cap : Nat}, Seq Elem.u64s w' (.slice a k cap) l → (∀ b, In (.slice a k cap) b → b ≠ g ∧ b ≠ ly) → k ≤ cap → cap ≤ 9223372036854775807 →
      Calls Try.prog 24 #[.pointer (some ⟨ly, 0, none⟩), .pointer (some ⟨p, 0, none⟩), .slice a k cap] w' fun e w2 => e = .returned (.int .i64 0) ∧ Two w p g lx ly M hx nx z (ny + l.length) w2 ∧ Upd (fun b => b = g ∨ b = ly) w' w2 := by
  obtain ⟨e1, e2, e3, e4⟩ := pushN_good l ⟨L, hy, ny⟩ r hc hL h1 h2 h3
  refine ⟨_, _, e2, e4, fun hc' hd => pushN_keeps l ⟨L, hy, ny⟩ hc' hd, ?_⟩
  intro p g lx ly hx nx w' t a k cap hq hin hk hcap
  have := t.pushY C hq hin hk hcap hc hL h1 h2 h3 hn hl
  rw [e3] at this
  exact this
theorem sizeRunU (w : World) : (sizeOf (Try.prog.elem 37)).run Try.prog w = .ok Elem.u64s.size w := by kernel_rfl
/-- An append that is guarded, as one step. -/
theorem wpList_append_vec_if {α : Type} {E : Elem α} {P : Program} {w : World} {ops : Array Oper} {rest : List Oper} {o : Oper} {a : Act} {Q : Exit → Act → World → Prop} (hw : Region.wanted o (yielded ops a.tmps) = true) (s x : Operand) (t : TypeId)
    (ho : o.op = .call { callee := .builtin .append, args := #[s, x], argTypes := #[t, t] })
    (e : TypeId) (i : TypeInfo) (z : Value) (bytes : Nat) (ht : P.underlying t = some (.slice e)) (hi : P.info? e = some i) (hz : i.zero = some z) (hsize : i.size = E.size) (hby : i.bytes = bytes) (hzs : z.cells.size = E.size)
    (v sv : Value) (l m : List α) (hs : a.eval s = v) (hx : a.eval x = sv) (hv : Vec E w v l) (hsv : Seq E w sv m) (h63 : l.length + m.length ≤ maxLen) (hbytes : (l.length + m.length) * bytes ≤ 140737488355328)
    (h : ∀ v' w', Vec E w' v' (l ++ m) → Upd (In v) w w' → (∀ k, In v' k → In v k ∨ w.heap.size ≤ k) → wpList P ops Q rest (a.put o.dst v') w') : wpList P ops Q (o :: rest) a w :=
  wpList_step fun K hK => by
    rw [if_pos hw]
    obtain ⟨v', w', hr, h1, h2, h3⟩ := run_append_vec (P := P) w t o.type e i z bytes ht hi hz hsize hby hzs v sv l m hv hsv h63 hbytes
    unfold Oper.wp execOp
    simp only [ho, resolve, invoke, builtin, Sem.run_bind, Sem.run_pure, Result.andThen_ok, List.map_toArray, List.map_cons, List.map_nil, hs, hx, hr]
    exact hK _ _ (h v' w' h1 h2 h3)
end Go.Proofs.Ytmnnmgphiiedgaa
