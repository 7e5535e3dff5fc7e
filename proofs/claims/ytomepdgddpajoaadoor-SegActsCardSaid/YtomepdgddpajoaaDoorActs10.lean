/- Acts on both segments: each call, with the act's own block kept. -/
import Derived.Test.YtomepdgddpajoaaDoorRefT10
namespace Go.Proofs.YtomepdgddpajoaaDoor
open Go.RowKit ListMath PageMath GeoMath SegMath ClassMath
set_option linter.unusedVariables false
set_option maxRecDepth 100000

/-- Both, and the act's block bc. -/
structure TA (w : World) (C : SgC w) (sp p g : Nat) (I : Nat → Prop) (c : Addr) (L : List Nat) (X : SG) (q mk gm : Nat) (Y : SG) (bc : Nat) (ta : TypeId) (A : Array Value) (w' : World) : Prop where
  tq : TQ w C sp p g I c L X q mk gm Y w'
  ba : Blk w' bc ta A
  nb : ¬ SO p g I X bc ∧ ¬ DN q mk gm Y bc
section
variable {w : World} {C : SgC w} {sp p g : Nat} {I I2 : Nat → Prop} {c : Addr} {L L2 : List Nat} {X X2 : SG} {q mk gm : Nat} {Y Y2 : SG} {bc : Nat} {ta : TypeId} {A : Array Value} {w' w2 : World}
theorem TA.grew (h : TA w C sp p g I c L X q mk gm Y bc ta A w') (b : Below w'.heap.size w' w2) : TA w C sp p g I c L X q mk gm Y bc ta A w2 := ⟨h.tq.grew b, h.ba.grew b, h.nb⟩
theorem TA.drew (h : TA w C sp p g I c L X q mk gm Y bc ta A w') : TA w C sp p g I c L X q mk gm Y bc ta A w'.drew := h.grew (Below.refl _ _).drew
theorem TA.land (h : TA w C sp p g I c L X q mk gm Y bc ta A w') (k : OSg C sp p g I2 c L2 X2 w2) (u : Upd (SO p g I X) w' w2) (hg : Grown p g I X I2 X2 w'.heap.size) : TA w C sp p g I2 c L2 X2 q mk gm Y bc ta A w2 :=
  ⟨h.tq.land k u hg, h.ba.upd u h.nb.1, fun x => by
    rcases hg bc x with y | y
    · exact h.nb.1 y
    · have := h.ba.lt; omega, h.nb.2⟩
theorem TA.doc {T : Nat → Prop} (h : TA w C sp p g I c L X q mk gm Y bc ta A w') (k : RD (SO p g I X) w2 q mk gm Y2) (u : Upd T w' w2) (hT : ∀ b, T b → DN q mk gm Y b) (hD : ∀ b, DN q mk gm Y2 b → DN q mk gm Y b ∨ w'.heap.size ≤ b) : TA w C sp p g I c L X q mk gm Y2 bc ta A w2 :=
  ⟨h.tq.doc k u hT hD, h.ba.upd u fun x => h.nb.2 (hT bc x), h.nb.1, fun x => by
    rcases hD bc x with y | y
    · exact h.nb.2 y
    · have := h.ba.lt; omega⟩
theorem qg_dn : ∀ b, (b = q ∨ b = gm) → DN q mk gm Y b := fun b hb => by rcases hb with rfl | rfl; exact .inl rfl; exact .inr (.inr (.inl rfl))
/-- What a call that makes a page answers, and leaves of the law's own. -/
def Mid (bad : Prop) (X : SG) (cls : Int) (wd bl s : Nat) (a : Option OwR) (E : Int) (X2 : SG) : Prop :=
  (bad ∧ X2 = X ∧ a = none ∧ E = 2) ∨ (¬ bad ∧ MarkMath.low X.K wd = none ∧ X2 = X ∧ a = none ∧ E = 4) ∨ (¬ bad ∧ ∃ a0 op pp, MarkMath.low X.K wd = some a0 ∧ X2 = X.add op pp cls a0 wd bl s ∧ a = some ⟨op, pp, cls, a0, wd, newPG (fromS X.pl a0) s bl⟩ ∧ E = 0)
def Zero (X : SG) : Prop := ∀ o ∈ X.L, o.P.ct = 0 ∧ o.P.ca = 0
theorem Mid.zero {bad : Prop} {cls : Int} {wd bl s : Nat} {a : Option OwR} {E : Int} (m : Mid bad X cls wd bl s a E X2) (z : Zero X) : Zero X2 := by
  rcases m with ⟨_, rfl, _⟩ | ⟨_, _, rfl, _⟩ | ⟨_, a0, op, pp, _, rfl, _⟩
  · exact z
  · exact z
  · intro o ho
    rcases insR_mem.1 (show o ∈ insR X.L _ from ho) with rfl | ho
    · exact ⟨rfl, rfl⟩
    · exact z o ho.1
theorem Mid.mem {bad : Prop} {cls : Int} {wd bl s : Nat} {a : Option OwR} {E : Int} (m : Mid bad X cls wd bl s a E X2) : ∀ o, a = some o → o ∈ X2.L := by
  rcases m with ⟨_, rfl, rfl, _⟩ | ⟨_, _, rfl, rfl, _⟩ | ⟨_, a0, op, pp, _, rfl, rfl, _⟩
  · intro o h; cases h
  · intro o h; cases h
  · intro o h
    cases h
    exact insR_mem.2 (.inl rfl)
abbrev badP (n : Int) : Prop := n < 0 ∨ 12 ≤ n
abbrev badB (n : Int) : Prop := n < 1 ∨ 15 < n
theorem ta_page (h : TA w C sp p g I c L X q mk gm Y bc ta A w') {n : Int} (hn : I64B n) :
    Calls Tryd.prog 25 #[.pointer (some ⟨sp, 0, none⟩), .int .i64 n] w' fun e w2 => ∃ a E I2 X2, e = .returned (.tuple #[ptrO a, .int .i64 E]) ∧ Mid (badP n) X n (slicesAt n.toNat) (blocksAt n.toNat) (sizeAt n.toNat) a E X2 ∧ TA w C sp p g I2 c L X2 q mk gm Y bc ta A w2 := by
  by_cases hb : badP n
  · exact (os_page_bad h.tq.os hn hb).mono fun e w2 ⟨k1, k2, k3⟩ => ⟨none, 2, I, X, k1, .inl ⟨hb, rfl, rfl, rfl⟩, h.grew k3⟩
  · obtain ⟨m, rfl⟩ := Int.eq_ofNat_of_zero_le (show 0 ≤ n by unfold badP at hb; omega)
    have hm : m < 12 := by unfold badP at hb; omega
    rw [Int.toNat_natCast]
    cases hl : MarkMath.low X.K (slicesAt m) with
    | none => exact (os_page_full h.tq.os hm hl).mono fun e w2 ⟨k1, k2, k3⟩ => ⟨none, 4, I, X, k1, .inr (.inl ⟨hb, hl, rfl, rfl, rfl⟩), h.grew k3⟩
    | some a0 => exact (os_page h.tq.os hm hl).mono fun e w2 ⟨op, pp, I', k1, k2, _, _, k5, k6⟩ => ⟨some ⟨op, pp, (m : Int), a0, slicesAt m, newPG (fromS X.pl a0) (sizeAt m) (blocksAt m)⟩, 0, I', _, k1, .inr (.inr ⟨hb, a0, op, pp, hl, rfl, rfl, rfl⟩), h.land k2 k6 k5⟩
theorem ta_big (h : TA w C sp p g I c L X q mk gm Y bc ta A w') {n : Int} (hn : I64B n) :
    Calls Tryd.prog 15 #[.pointer (some ⟨sp, 0, none⟩), .int .i64 n] w' fun e w2 => ∃ a E I2 X2, e = .returned (.tuple #[ptrO a, .int .i64 E]) ∧ Mid (badB n) X (-1) n.toNat 1 (n.toNat * 1024) a E X2 ∧ TA w C sp p g I2 c L X2 q mk gm Y bc ta A w2 := by
  by_cases hb : badB n
  · exact (os_big_bad h.tq.os hn hb).mono fun e w2 ⟨k1, k2, k3⟩ => ⟨none, 2, I, X, k1, .inl ⟨hb, rfl, rfl, rfl⟩, h.grew k3⟩
  · obtain ⟨m, rfl⟩ := Int.eq_ofNat_of_zero_le (show 0 ≤ n by unfold badB at hb; omega)
    have hm : 1 ≤ m := by unfold badB at hb; omega
    have hm2 : m ≤ 15 := by unfold badB at hb; omega
    rw [Int.toNat_natCast]
    cases hl : MarkMath.low X.K m with
    | none => exact (os_big_full h.tq.os hm hm2 hl).mono fun e w2 ⟨k1, k2, k3⟩ => ⟨none, 4, I, X, k1, .inr (.inl ⟨hb, hl, rfl, rfl, rfl⟩), h.grew k3⟩
    | some a0 => exact (os_big h.tq.os hm hm2 hl).mono fun e w2 ⟨op, pp, I', k1, k2, _, _, k5, k6⟩ => ⟨some ⟨op, pp, -1, a0, m, newPG (fromS X.pl a0) (m * 1024) 1⟩, 0, I', _, k1, .inr (.inr ⟨hb, a0, op, pp, hl, rfl, rfl, rfl⟩), h.land k2 k6 k5⟩
/-- The document's, behind the law's own. -/
def MidD (w : World) (C : SgC w) (sp p g : Nat) (I2 : Nat → Prop) (c : Addr) (L : List Nat) (X2 : SG) (q mk gm bc : Nat) (ta : TypeId) (A : Array Value) (a : Option OwR) (E : Int) (e : Ending) (w3 : World) : Prop :=
  ∃ b Y2, e = .returned (.tuple #[ptrO b, .int .i64 E]) ∧ TA w C sp p g I2 c L X2 q mk gm Y2 bc ta A w3 ∧ SameD X2 Y2 ∧ a.map sk = b.map sk ∧ ∀ o, b = some o → o ∈ Y2.L
theorem midD_same (h : TA w C sp p g I2 c L X2 q mk gm Y bc ta A w2) (s : SameD X2 Y) {e : Ending} {w3 : World} {E : Int} (he : e = .returned (.tuple #[.pointer none, .int .i64 E])) (b : Below w2.heap.size w2 w3) : MidD w C sp p g I2 c L X2 q mk gm bc ta A none E e w3 :=
  ⟨none, Y, he, h.grew b, s, rfl, fun o h => by cases h⟩
theorem midD_more {a0 op pp op' pp' wd bl z : Nat} {cls : Int} (h : TA w C sp p g I2 c L (X.add op pp cls a0 wd bl z) q mk gm Y bc ta A w2) (s : SameD X Y) {e : Ending} {w3 : World} (he : e = .returned (.tuple #[.pointer (some ⟨op', 0, none⟩), .int .i64 0]))
    (k : RD (SO p g I2 (X.add op pp cls a0 wd bl z)) w3 q mk gm (Y.add op' pp' cls a0 wd bl z)) (h1 : w2.heap.size ≤ op') (h2 : w2.heap.size ≤ pp') (u : Upd (fun b => b = q ∨ b = gm) w2 w3) :
    MidD w C sp p g I2 c L (X.add op pp cls a0 wd bl z) q mk gm bc ta A (some ⟨op, pp, cls, a0, wd, newPG (fromS X.pl a0) z bl⟩) 0 e w3 :=
  ⟨some ⟨op', pp', cls, a0, wd, newPG (fromS Y.pl a0) z bl⟩, _, he, h.doc k u qg_dn (dn_add h1 h2), s.add op pp op' pp' cls a0 wd bl z, by rw [s.pl]; rfl, fun o ho => by cases ho; exact insR_mem.2 (.inl rfl)⟩
theorem ta_page_doc (h : TA w C sp p g I2 c L X2 q mk gm Y bc ta A w2) (s : SameD X Y) (gX : GoodG X) (hpl : X.pl ≤ 3) {n : Int} {a : Option OwR} {E : Int} (m : Mid (badP n) X n (slicesAt n.toNat) (blocksAt n.toNat) (sizeAt n.toNat) a E X2) :
    Calls Tryd.prog 26 #[.pointer (some ⟨q, 0, none⟩), .int .i64 n] w2 (MidD w C sp p g I2 c L X2 q mk gm bc ta A a E) := by
  have gY := s.good gX
  rcases m with ⟨hb, rfl, rfl, rfl⟩ | ⟨hb, hl, rfl, rfl, rfl⟩ | ⟨hb, a0, op, pp, hl, rfl, rfl, rfl⟩
  · exact (rd_page_bad w2 q hb).mono fun e w3 ⟨k1, k2⟩ => midD_same h s k1 k2
  · obtain ⟨m, rfl⟩ := Int.eq_ofNat_of_zero_le (show 0 ≤ n by unfold badP at hb; omega)
    rw [Int.toNat_natCast, s.K] at hl
    exact (rd_page_full h.tq.rd gY (by unfold badP at hb; omega) hl).mono fun e w3 ⟨k1, k2⟩ => midD_same h s k1 k2
  · obtain ⟨m, rfl⟩ := Int.eq_ofNat_of_zero_le (show 0 ≤ n by unfold badP at hb; omega)
    rw [Int.toNat_natCast] at hl h ⊢
    rw [s.K] at hl
    exact (rd_page h.tq.rd h.tq.hZ gY (by rw [← s.pl]; exact hpl) (by unfold badP at hb; omega) hl).mono fun e w3 ⟨op', pp', k1, k2, k3, k4, k5⟩ => midD_more h s k1 k2 k3 k4 k5
theorem ta_big_doc (h : TA w C sp p g I2 c L X2 q mk gm Y bc ta A w2) (s : SameD X Y) (gX : GoodG X) (hpl : X.pl ≤ 3) {n : Int} {a : Option OwR} {E : Int} (m : Mid (badB n) X (-1) n.toNat 1 (n.toNat * 1024) a E X2) :
    Calls Tryd.prog 16 #[.pointer (some ⟨q, 0, none⟩), .int .i64 n] w2 (MidD w C sp p g I2 c L X2 q mk gm bc ta A a E) := by
  have gY := s.good gX
  rcases m with ⟨hb, rfl, rfl, rfl⟩ | ⟨hb, hl, rfl, rfl, rfl⟩ | ⟨hb, a0, op, pp, hl, rfl, rfl, rfl⟩
  · exact (rd_big_bad w2 q hb).mono fun e w3 ⟨k1, k2⟩ => midD_same h s k1 k2
  · obtain ⟨m, rfl⟩ := Int.eq_ofNat_of_zero_le (show 0 ≤ n by unfold badB at hb; omega)
    rw [Int.toNat_natCast, s.K] at hl
    exact (rd_big_full h.tq.rd gY (by unfold badB at hb; omega) (by unfold badB at hb; omega) hl).mono fun e w3 ⟨k1, k2⟩ => midD_same h s k1 k2
  · obtain ⟨m, rfl⟩ := Int.eq_ofNat_of_zero_le (show 0 ≤ n by unfold badB at hb; omega)
    rw [Int.toNat_natCast] at hl h ⊢
    rw [s.K] at hl
    exact (rd_big h.tq.rd h.tq.hZ gY (by rw [← s.pl]; exact hpl) (by unfold badB at hb; omega) (by unfold badB at hb; omega) hl).mono fun e w3 ⟨op', pp', k1, k2, k3, k4, k5⟩ => midD_more h s k1 k2 k3 k4 k5
/-! ### Drop, Find, Alloc -/
theorem ta_drop (h : TA w C sp p g I c L X q mk gm Y bc ta A w') {n : Int} (hn : I64B n) :
    Calls Tryd.prog 18 #[.pointer (some ⟨sp, 0, none⟩), .int .i64 n] w' fun e w2 => ∃ I2, e = .returned (.int .i64 (dropE X n).2) ∧ TA w C sp p g I2 c L (dropE X n).1 q mk gm Y bc ta A w2 :=
  (os_drop h.tq.os hn).mono fun e w2 ⟨I', k1, k2, k3, k4⟩ => ⟨I', k1, h.land k2 k4 k3⟩
theorem ta_drop_doc (h : TA w C sp p g I c L X q mk gm Y bc ta A w') (gY : GoodG Y) {n : Int} (hn : I64B n) :
    Calls Tryd.prog 19 #[.pointer (some ⟨q, 0, none⟩), .int .i64 n] w' fun e w2 => e = .returned (.int .i64 (dropE Y n).2) ∧ TA w C sp p g I c L X q mk gm (dropE Y n).1 bc ta A w2 :=
  (rd_drop h.tq.rd h.tq.hZ gY hn).mono fun e w2 ⟨k1, k2, k3⟩ => ⟨k1, h.doc k2 k3 qg_dn fun b hb => .inl (dn_drop b hb)⟩
theorem zero_drop (z : Zero X) (n : Int) : Zero (dropE X n).1 := by
  have hsub : ∀ o ∈ (dropE X n).1.L, o ∈ X.L := by
    unfold dropE
    cases atS X n with
    | none => exact fun o h => h
    | some x =>
      simp only []
      split
      · exact fun o h => h
      · exact fun o h => (List.mem_filter.1 h).1
  exact fun o ho => z o (hsub o ho)
theorem ta_find (h : TA w C sp p g I c L X q mk gm Y bc ta A w') {a : Nat} (ha : U64B a) :
    Calls Tryd.prog 23 #[.pointer (some ⟨sp, 0, none⟩), .int .u64 (a : Int)] w' fun e w2 => e = .returned (.tuple #[ptrO (findO X a), .int .i64 (findE X a)]) ∧ TA w C sp p g I c L X q mk gm Y bc ta A w2 :=
  (os_find h.tq.os ha).mono fun e w2 ⟨k1, _, k3⟩ => ⟨k1, h.grew k3⟩
theorem ta_find_doc (h : TA w C sp p g I c L X q mk gm Y bc ta A w') (s : SameD X Y) {a : Nat} (ha : U64B a) :
    Calls Tryd.prog 24 #[.pointer (some ⟨q, 0, none⟩), .int .u64 (a : Int)] w' fun e w2 => e = .returned (.tuple #[ptrO (findO Y a), .int .i64 (findE X a)]) ∧ TA w C sp p g I c L X q mk gm Y bc ta A w2 := by
  have gY := s.good h.tq.os.sg.good
  rw [(s.find h.tq.os.sg.good a).2]
  exact (rd_find h.tq.rd (by rw [← s.pl]; exact h.tq.os.sg.pl) (fun o ho => (gY.fit o ho).2.2) ha).mono fun e w2 ⟨k1, k3⟩ => ⟨k1, h.grew k3⟩
theorem findO_mem {a : Nat} : ∀ o, findO X a = some o → o ∈ X.L := fun o h => by
  unfold findO at h
  split at h
  · cases h
  · exact (inS_some h).1
theorem ta_alloc (h : TA w C sp p g I c L X q mk gm Y bc ta A w') {o : OwR} (ho : o ∈ X.L) :
    Calls Tryd.prog 21 #[.pointer (some ⟨o.pp, 0, none⟩)] w' fun e w2 => e = .returned (.tuple #[.int .u64 ((allocP o.P).2.1 : Int), .int .i64 (allocP o.P).2.2]) ∧ ∃ L2, TA w C sp p g I c L2 (X.put o.pp (allocP o.P).1) q mk gm Y bc ta A w2 :=
  (h.tq.os.alloc ho).mono fun e w2 ⟨k1, L', k2, _, k4⟩ => ⟨k1, L', h.land k2 k4 fun b hb => .inl (SO.put.1 hb)⟩
theorem ta_alloc_doc (h : TA w C sp p g I c L X q mk gm Y bc ta A w') {o' : OwR} (ho : o' ∈ Y.L) (f : FitP o'.P) (hx : ∀ x ∈ (refill o'.P).F, U64B x) :
    Calls Tryd.prog 22 #[.pointer (some ⟨o'.pp, 0, none⟩)] w' fun e w2 => e = .returned (.tuple #[.int .u64 ((allocP o'.P).2.1 : Int), .int .i64 (allocP o'.P).2.2]) ∧ TA w C sp p g I c L X q mk gm (Y.put o'.pp (allocP o'.P).1) bc ta A w2 :=
  (rd_alloc h.tq.rd h.tq.hZ ho f hx).mono fun e w2 ⟨k1, k2, k3⟩ => ⟨k1, h.doc k2 k3 (fun b hb => .inr (.inr (.inr ⟨o', ho, .inr hb⟩))) fun b hb => .inl (DN.put.1 hb)⟩
theorem zero_put (z : Zero X) {o : OwR} (ho : o ∈ X.L) : Zero (X.put o.pp (allocP o.P).1) := fun x hx => by
  obtain ⟨y, hy, rfl⟩ := put_mem.1 hx
  split
  · exact zero_alloc (z o ho)
  · exact z y hy
end
end Go.Proofs.YtomepdgddpajoaaDoor
