/- Both queues side by side, and an act beside them (for QueueActs). -/
import Derived.Test.YtolccandekgmoaaEach11
namespace Go.Proofs.Ytolccandekgmoaa
open Go.RowKit QueueMath
set_option linter.unusedVariables false
set_option maxRecDepth 100000

/-- What the document's Fill and Wake do. -/
structure DQ : Prop where
  fill : ∀ {Z : Nat → Prop} {w : World} {m : Nat} {S : QR}, RQ Z w m S → (∀ k, Z k → k < w.heap.size) → ∀ {x : Int}, I64 x → S.all.length ≤ 100000 →
    Calls Try.prog 15 #[.pointer (some ⟨m, 0, none⟩), .int .i64 x] w fun e w' => e = .returned (.int .i64 (fillE S x).2) ∧ RQ Z w' m (fillE S x).1 ∧ Upd (fun k => k = m) w w'
  wake : ∀ {Z : Nat → Prop} {w : World} {m : Nat} {S : QR}, RQ Z w m S → (∀ k, Z k → k < w.heap.size) → ∀ {x : Int}, I64 x → S.all.length ≤ 100000 →
    Calls Try.prog 17 #[.pointer (some ⟨m, 0, none⟩), .int .i64 x] w fun e w' => e = .returned (.int .i64 (wakeE S x).2) ∧ RQ Z w' m (wakeE S x).1 ∧ Upd (fun k => k = m) w w'
theorem RQ.weak {Z Z' : Nat → Prop} {w : World} {m : Nat} {S : QR} (h : RQ Z w m S) (hZ : ∀ k, Z' k → Z k) : RQ Z' w m S := h.re fun k hk => .inl (hZ k hk)
section
variable {w : World} {C : QuC w} {b : Nat} {O O' : Nat → Prop} {S S' Y Y' : QR} {m : Nat} {w' w2 : World} {v : Value} {l : List Int} {x : Int}
structure TQ (C : QuC w) (b : Nat) (O : Nat → Prop) (S : QR) (m : Nat) (Y : QR) (w' : World) : Prop where
  os : OQ C b O S w'
  rd : RQ O w' m Y
  lo : w.heap.size ≤ m
theorem TQ.nm (h : TQ C b O S m Y w') : ¬ O m := by obtain ⟨_, _, _, _, _, _, h4⟩ := h.rd; exact h4
theorem TQ.mlt (h : TQ C b O S m Y w') : m < w'.heap.size := by obtain ⟨_, _, hb, _⟩ := h.rd; exact hb.lt
theorem TQ.grew (h : TQ C b O S m Y w') (hb : Below w'.heap.size w' w2) : TQ C b O S m Y w2 := ⟨h.os.grew hb, h.rd.grew hb, h.lo⟩
/-- Behind a call of the program's. -/
theorem TQ.prog (h : TQ C b O S m Y w') (k : OQ C b O' S' w2) (hO : ∀ c, O' c → O c ∨ w'.heap.size ≤ c) (u : Upd O w' w2) : TQ C b O' S' m Y w2 :=
  ⟨k, ((h.rd.re (Z' := fun c => O c ∨ O' c) fun c hc => hc.elim .inl (hO c)).upd u fun c hc => .inl hc).weak fun c hc => .inr hc, h.lo⟩
/-- Behind a call of the document's. -/
theorem TQ.docd (h : TQ C b O S m Y w') (r : RQ O w2 m Y') (u : Upd (fun k => k = m) w' w2) : TQ C b O S m Y' w2 :=
  ⟨h.os.upd u fun k hk => by rw [hk]; exact ⟨h.nm, h.lo⟩, r, h.lo⟩
/-- .. and the act's block. -/
structure TA (C : QuC w) (b : Nat) (O : Nat → Prop) (S : QR) (m : Nat) (Y : QR) (bc : Nat) (ta : TypeId) (A : Array Value) (w' : World) : Prop where
  tq : TQ C b O S m Y w'
  ba : Blk w' bc ta A
  nO : ¬ O bc
  nm : bc ≠ m
variable {bc : Nat} {ta : TypeId} {A : Array Value}
theorem TA.grew (h : TA C b O S m Y bc ta A w') (hb : Below w'.heap.size w' w2) : TA C b O S m Y bc ta A w2 := ⟨h.tq.grew hb, h.ba.grew hb, h.nO, h.nm⟩
theorem TA.drew (h : TA C b O S m Y bc ta A w') : TA C b O S m Y bc ta A w'.drew := h.grew (Below.refl _ _).drew
theorem TA.prog (h : TA C b O S m Y bc ta A w') (k : OQ C b O' S' w2) (hO : ∀ c, O' c → O c ∨ w'.heap.size ≤ c) (u : Upd O w' w2) : TA C b O' S' m Y bc ta A w2 :=
  ⟨h.tq.prog k hO u, h.ba.upd u h.nO, fun hh => by rcases hO _ hh with z | z; exact h.nO z; have := h.ba.lt; omega, h.nm⟩
theorem TA.docd (h : TA C b O S m Y bc ta A w') (r : RQ O w2 m Y') (u : Upd (fun k => k = m) w' w2) : TA C b O S m Y' bc ta A w2 := ⟨h.tq.docd r u, h.ba.upd u h.nm, h.nO, h.nm⟩
/-- A row that came in. -/
structure Came (w : World) (v : Value) (l : List Int) : Prop where
  arr : ∀ w', Below w.heap.size w w' → Arr w' v l
  old : Old w v l
theorem came_of (h : NumsAt w .i64 v l) : Came w v l := ⟨fun w' hb => (Arr.ofNums h).grew hb, h.old⟩
theorem ta_push (h : TA C b O S m Y bc ta A w') (hv : Came w v l) (hm : S.all.length + l.length ≤ many) :
    Calls Try.prog 18 #[.pointer (some ⟨b, 0, none⟩), v] w' fun e w2 => e = .returned (.int .i64 (pushE S l).2) ∧ ∃ O', TA C b O' (pushE S l).1 m Y bc ta A w2 :=
  (oq_push h.tq.os (hv.arr w' h.tq.os.below) (h.tq.os.old hv.old) hm).mono fun e w2 ⟨k1, O', k2, k3, k4⟩ => ⟨k1, O', h.prog k2 k3 k4⟩
theorem ta_remove (h : TA C b O S m Y bc ta A w') (hv : Came w v l) (hm : S.all.length + l.length ≤ many) :
    Calls Try.prog 11 #[.pointer (some ⟨b, 0, none⟩), v] w' fun e w2 => e = .returned (.int .i64 (removeE S l).2) ∧ ∃ O', TA C b O' (removeE S l).1 m Y bc ta A w2 :=
  (oq_remove h.tq.os (hv.arr w' h.tq.os.below) (h.tq.os.old hv.old) hm).mono fun e w2 ⟨k1, O', k2, k3, k4⟩ => ⟨k1, O', h.prog k2 k3 k4⟩
theorem ta_fill (h : TA C b O S m Y bc ta A w') (hx : I64 x) (hm : S.all.length ≤ many) :
    Calls Try.prog 14 #[.pointer (some ⟨b, 0, none⟩), .int .i64 x] w' fun e w2 => e = .returned (.int .i64 (fillE S x).2) ∧ ∃ O', TA C b O' (fillE S x).1 m Y bc ta A w2 :=
  (oq_fill h.tq.os hx hm).mono fun e w2 ⟨k1, O', k2, k3, k4⟩ => ⟨k1, O', h.prog k2 k3 k4⟩
theorem ta_wake (h : TA C b O S m Y bc ta A w') (hx : I64 x) (hm : S.all.length ≤ many) :
    Calls Try.prog 16 #[.pointer (some ⟨b, 0, none⟩), .int .i64 x] w' fun e w2 => e = .returned (.int .i64 (wakeE S x).2) ∧ ∃ O', TA C b O' (wakeE S x).1 m Y bc ta A w2 :=
  (oq_wake h.tq.os hx hm).mono fun e w2 ⟨k1, O', k2, k3, k4⟩ => ⟨k1, O', h.prog k2 k3 k4⟩
theorem TQ.olt (h : TQ C b O S m Y w') : ∀ k, O k → k < w'.heap.size := fun k hk => h.os.lt hk
theorem Came.apart (hv : Came w v l) (h : TQ C b O S m Y w') : Apt v l (fun k => k = m) := hv.old.apt fun k hk => by rw [hk]; exact h.lo
theorem ta_push_doc (h : TA C b O S m Y bc ta A w') (hv : Came w v l) (hm : Y.all.length + l.length ≤ 100000) :
    Calls Try.prog 12 #[v, .func (.func 19) #[.pointer (some ⟨m, 0, none⟩)] #[]] w' fun e w2 => e = .returned (.int .i64 (pushE Y l).2) ∧ TA C b O S m (pushE Y l).1 bc ta A w2 :=
  (each_push h.tq.rd h.tq.olt (hv.arr w' h.tq.os.below) (hv.apart h.tq) hm).mono fun e w2 ⟨k1, k2, k3⟩ => ⟨k1, h.docd k2 k3⟩
theorem ta_remove_doc (h : TA C b O S m Y bc ta A w') (hv : Came w v l) (hm : Y.all.length + l.length ≤ 100000) :
    Calls Try.prog 12 #[v, .func (.func 13) #[.pointer (some ⟨m, 0, none⟩)] #[]] w' fun e w2 => e = .returned (.int .i64 (removeE Y l).2) ∧ TA C b O S m (removeE Y l).1 bc ta A w2 :=
  (each_remove h.tq.rd h.tq.olt (hv.arr w' h.tq.os.below) (hv.apart h.tq) hm).mono fun e w2 ⟨k1, k2, k3⟩ => ⟨k1, h.docd k2 k3⟩
theorem ta_fill_doc (D : DQ) (h : TA C b O S m Y bc ta A w') (hx : I64 x) (hm : Y.all.length ≤ 100000) :
    Calls Try.prog 15 #[.pointer (some ⟨m, 0, none⟩), .int .i64 x] w' fun e w2 => e = .returned (.int .i64 (fillE Y x).2) ∧ TA C b O S m (fillE Y x).1 bc ta A w2 :=
  (D.fill h.tq.rd h.tq.olt hx hm).mono fun e w2 ⟨k1, k2, k3⟩ => ⟨k1, h.docd k2 k3⟩
theorem ta_wake_doc (D : DQ) (h : TA C b O S m Y bc ta A w') (hx : I64 x) (hm : Y.all.length ≤ 100000) :
    Calls Try.prog 17 #[.pointer (some ⟨m, 0, none⟩), .int .i64 x] w' fun e w2 => e = .returned (.int .i64 (wakeE Y x).2) ∧ TA C b O S m (wakeE Y x).1 bc ta A w2 :=
  (D.wake h.tq.rd h.tq.olt hx hm).mono fun e w2 ⟨k1, k2, k3⟩ => ⟨k1, h.docd k2 k3⟩
end
end Go.Proofs.Ytolccandekgmoaa
