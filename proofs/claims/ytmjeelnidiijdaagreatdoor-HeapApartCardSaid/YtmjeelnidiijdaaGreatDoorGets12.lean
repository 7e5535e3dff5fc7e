/- Gets12: texts of layers below, joined (HeapBusy HeapEnt HeapOx Keeps12 Get12 GetAny Mine12). -/
import Derived.Test.YtmjeelnidiijdaaGreatDoorUses12
import Derived.Test.YtmjeelnidiijdaaGreatDoorHeapOs
import Derived.Test.YtmjeelnidiijdaaGreatDoorAlives12
import Derived.Test.YtmjeelnidiijdaaGreatDoorFo
import Derived.Test.YtmjeelnidiijdaaGreatDoorClasses12
import Derived.BigQuiet
import Derived.Test.YtmjeelnidiijdaaGreatDoorElems
/- Heaps (layer 12): all pages have a block that is used, and all segments a page. -/
namespace Go.Proofs.YtmjeelnidiijdaaGreatDoor.HeapMath
open ListMath GeoMath PageMath ClassMath SegMath QueueMath
open ArenaMath (St reserve release)
set_option linter.unusedVariables false

structure Busy (H : HS) : Prop where
  ne : ∀ X ∈ H.B, X.L ≠ []
  used : ∀ X ∈ H.B, ∀ o ∈ X.L, 0 < o.P.used
section
variable {H : HS} {L U : List Nat} {X : SG} {o : OwR} {A : St}
theorem Busy.rows {H' : HS} (b : Busy H) (e : H'.B = H.B) : Busy H' := ⟨fun X hX => b.ne X (by rw [← e]; exact hX), fun X hX => b.used X (by rw [← e]; exact hX)⟩
theorem put_ne {pp : Nat} {S : PG} (h : X.L ≠ []) : (X.put pp S).L ≠ [] := fun e => h (List.map_eq_nil_iff.1 e)
theorem pp_only (g : GoodS X) (ho : o ∈ X.L) {x : OwR} (hx : x ∈ X.L) (e : x.pp = o.pp) : x = o := by
  have hn := g.pps
  revert hx ho hn
  generalize X.L = l
  intro ho hx hn
  induction l with
  | nil => cases ho
  | cons y t ih =>
    rw [List.map_cons, List.nodup_cons] at hn
    rcases List.mem_cons.1 ho with rfl | ho2
    · rcases List.mem_cons.1 hx with rfl | hx2
      · rfl
      · exact absurd (List.mem_map.2 ⟨x, hx2, e⟩) hn.1
    · rcases List.mem_cons.1 hx with rfl | hx2
      · exact absurd (List.mem_map.2 ⟨o, ho2, e.symm⟩) hn.1
      · exact ih ho2 hx2 hn.2
/-- One page's state is S now: all others are used. -/
theorem busy_but (g : GoodH H) (b : Busy H) (hX : X ∈ H.B) (ho : o ∈ X.L) (S : PG) : (∀ Z ∈ (H.setB (X.put o.pp S)).B, Z.L ≠ []) ∧ ∀ Z ∈ (H.setB (X.put o.pp S)).B, ∀ z ∈ Z.L, ¬ (Z = X.put o.pp S ∧ z = { o with P := S }) → 0 < z.P.used := by
  refine ⟨fun Z hZ => ?_, fun Z hZ z hz hne => ?_⟩
  · rcases mem_setB.1 hZ with ⟨rfl, _⟩ | ⟨hZ, _⟩
    · exact put_ne (b.ne X hX)
    · exact b.ne Z hZ
  · rcases mem_setB.1 hZ with ⟨rfl, _⟩ | ⟨hZ, _⟩
    · obtain ⟨y, hy, rfl⟩ := put_mem.1 hz
      by_cases e : y.pp = o.pp
      · have := pp_only (g.seg X hX) ho hy e
        subst this
        exact absurd ⟨rfl, if_pos rfl⟩ hne
      · rw [if_neg e]; exact b.used X hX y hy
    · exact b.used Z hZ z hz
/-- Behind Fresh: all segments but the one asked had pages. -/
theorem busy_fresh (g : GoodH H) {op pp a sl : Nat} {c : Int} (hX : X ∈ H.B) (hne : ∀ Z ∈ H.B, Z ≠ X → Z.L ≠ []) (hu : ∀ Z ∈ H.B, ∀ z ∈ Z.L, 0 < z.P.used) (hp : ∀ o ∈ X.L, o.pp ≠ pp) : Busy (freshH H X op pp c sl a) := by
  have hin : ∀ z ∈ (freshX X op pp c sl a).L, (z ∈ X.L ∨ z.P = fresh (fromS X.pl a) (szOf c sl) (nOf c) 1) := fun z hz => by
    obtain ⟨y, hy, rfl⟩ := put_mem.1 hz
    rcases insR_mem.1 (show y ∈ insR X.L _ from hy) with rfl | ⟨hy, _⟩
    · rw [if_pos rfl]; exact .inr rfl
    · rw [if_neg (hp y hy)]; exact .inl hy
  refine ⟨fun Z hZ => ?_, fun Z hZ z hz => ?_⟩
  · rcases mem_setB.1 hZ with ⟨rfl, _⟩ | ⟨hZ, hpl⟩
    · refine put_ne fun e => ?_
      have : (⟨op, pp, c, a, wdOf c sl, newPG (fromS X.pl a) (szOf c sl) (nOf c)⟩ : OwR) ∈ insR X.L ⟨op, pp, c, a, wdOf c sl, newPG (fromS X.pl a) (szOf c sl) (nOf c)⟩ := insR_mem.2 (.inl rfl)
      have e' : insR X.L ⟨op, pp, c, a, wdOf c sl, newPG (fromS X.pl a) (szOf c sl) (nOf c)⟩ = [] := e
      rw [e'] at this; cases this
    · exact hne Z hZ fun e => hpl (by rw [e]; rfl)
  · rcases mem_setB.1 hZ with ⟨rfl, _⟩ | ⟨hZ, _⟩
    · rcases hin z hz with h | h
      · exact hu X hX z h
      · rw [h]; exact Nat.succ_pos _
    · exact hu Z hZ z hz
/-- With nothing used and nothing posted there is nothing. -/
theorem busy_nil (b : Busy H) (h : HU H L []) (hq : ∀ X ∈ H.B, ∀ o ∈ X.L, o.P.cw = 0) : H.B = [] := by
  cases hB : H.B with
  | nil => rfl
  | cons X t =>
    have hX : X ∈ H.B := by rw [hB]; exact List.mem_cons_self ..
    cases hL : X.L with
    | nil => exact absurd hL (b.ne X hX)
    | cons o l =>
      have ho : o ∈ X.L := by rw [hL]; exact List.mem_cons_self ..
      obtain ⟨k1, P, k2⟩ := h.wh X hX o ho
      have h1 := b.used X hX o ho
      have h2 := k2.use
      have h3 := (k2.word k1).2.2 (hq X hX o ho)
      rw [h3] at h2
      simp at h2
      omega
end
end Go.Proofs.YtmjeelnidiijdaaGreatDoor.HeapMath
/- Heaps (layer 12): the blocks that are used keep their pages and their bytes. -/
namespace Go.Proofs.YtmjeelnidiijdaaGreatDoor.HeapMath
open ListMath GeoMath PageMath ClassMath SegMath QueueMath
open ArenaMath (St reserve release)
set_option linter.unusedVariables false

/-- Each of U is in a page of the same run still, and its bytes are as they were. -/
def EntK (H : HS) (L : List Nat) (H' : HS) (L' U : List Nat) : Prop := ∀ y ∈ U, ∀ X ∈ H.B, ∀ o ∈ X.L, inRun o.P y = true →
  (∃ X' ∈ H'.B, ∃ o' ∈ X'.L, o'.P.f = o.P.f ∧ o'.P.s = o.P.s ∧ o'.P.n = o.P.n) ∧ ∀ i, y ≤ i → i < y + o.P.s → L'.getD i 0 = L.getD i 0
section
variable {H H1 H2 H' : HS} {L L1 L2 L' U V Y : List Nat} {X Z : SG} {o z : OwR} {A : St}
theorem EntK.refl (H : HS) (L U : List Nat) : EntK H L H L U := fun y _ X hX o ho _ => ⟨⟨X, hX, o, ho, rfl, rfl, rfl⟩, fun _ _ _ => rfl⟩
theorem EntK.rows (e : H'.B = H.B) : EntK H L H' L U := fun y _ X hX o ho _ => ⟨⟨X, by rw [e]; exact hX, o, ho, rfl, rfl, rfl⟩, fun _ _ _ => rfl⟩
theorem EntK.trans (h : EntK H L H1 L1 U) (k : EntK H1 L1 H2 L2 U) : EntK H L H2 L2 U := fun y hy X hX o ho hr => by
  obtain ⟨⟨X1, hX1, o1, ho1, e1, e2, e3⟩, hb⟩ := h y hy X hX o ho hr
  have hr1 : inRun o1.P y = true := by rw [inRun_same ⟨e1, e2, e3⟩]; exact hr
  obtain ⟨⟨X2, hX2, o2, ho2, f1, f2, f3⟩, hb2⟩ := k y hy X1 hX1 o1 ho1 hr1
  refine ⟨⟨X2, hX2, o2, ho2, f1.trans e1, f2.trans e2, f3.trans e3⟩, fun i h1 h2 => ?_⟩
  rw [hb2 i h1 (by rw [e2]; exact h2), hb i h1 h2]
theorem EntK.less (h : EntK H L H' L' U) (hs : ∀ y ∈ V, y ∈ U) : EntK H L H' L' V := fun y hy => h y (hs y hy)
theorem keep_of {s y : Nat} (e : Agree L L' Y) (hY : ∀ x ∈ Y, x + 8 ≤ y ∨ y + s ≤ x) : ∀ i, y ≤ i → i < y + s → L'.getD i 0 = L.getD i 0 := fun i h1 h2 => e.2 i fun x hx => by have := hY x hx; omega
/-- A used block's page. -/
theorem HU.page (g : GoodH H) (h : HU H L U) {y : Nat} (hy : y ∈ U) (hZ : Z ∈ H.B) (hz : z ∈ Z.L) (hr : inRun z.P y = true) : IsBlk z.P.f z.P.s z.P.made y := by
  obtain ⟨X, hX, o, ho, hb, _⟩ := h.blk g hy
  have gg := (h.wh X hX o ho).1
  obtain ⟨rfl, rfl⟩ := inRun_one g hX ho hZ hz (inRun_blk hb gg.made gg.s16) hr
  exact hb
theorem news_apart (g : GoodH H) (h : HU H L U) (hX : X ∈ H.B) (ho : o ∈ X.L) {y : Nat} (hy : y ∈ U) (hZ : Z ∈ H.B) (hz : z ∈ Z.L) (hr : inRun z.P y = true) : ∀ x ∈ newsOf o.P, x + 8 ≤ y ∨ y + z.P.s ≤ x := fun x hx => by
  have go := (h.wh X hX o ho).1; have gz := (h.wh Z hZ z hz).1
  have hb := h.page g hy hZ hz hr
  have hfz := hb.fits gz.made (Nat.le_refl _)
  have hfy : z.P.f ≤ y := (inRun_iff.1 hr).1
  have hnr := newsOf_run go x hx
  by_cases e : X = Z ∧ o = z
  · obtain ⟨rfl, rfl⟩ := e
    unfold newsOf at hx
    split at hx
    · obtain ⟨i, hi, ei⟩ := hb
      obtain ⟨j, hj, ej⟩ := news_mem hx
      have := mul_step (s := o.P.s) (show i < o.P.made + j by omega)
      right; omega
    · cases hx
  · rcases runs_apart g hX ho hZ hz e with x1 | x1
    · left; omega
    · right; omega
/-- One page's state is another one. -/
theorem ent_put (g : GoodH H) (hX : X ∈ H.B) (ho : o ∈ X.L) {S : PG} (hs : S.f = o.P.f ∧ S.s = o.P.s ∧ S.n = o.P.n) (hk : ∀ y ∈ U, ∀ Z ∈ H.B, ∀ z ∈ Z.L, inRun z.P y = true → ∀ i, y ≤ i → i < y + z.P.s → L'.getD i 0 = L.getD i 0) : EntK H L (H.setB (X.put o.pp S)) L' U := fun y hy Z hZ z hz hr => by
  refine ⟨?_, hk y hy Z hZ z hz hr⟩
  by_cases e : Z.pl = X.pl
  · have ez := pl_one g.pls hZ hX e
    subst ez
    by_cases e2 : z.pp = o.pp
    · have := pp_only (g.seg Z hZ) ho hz e2
      subst this
      exact ⟨_, mem_setB.2 (.inl ⟨rfl, Z, hZ, rfl⟩), _, put_in hz S, hs.1, hs.2.1, hs.2.2⟩
    · exact ⟨_, mem_setB.2 (.inl ⟨rfl, Z, hZ, rfl⟩), z, put_mem.2 ⟨z, hz, by rw [if_neg e2]⟩, rfl, rfl, rfl⟩
  · exact ⟨Z, mem_setB.2 (.inr ⟨hZ, e⟩), z, hz, rfl, rfl, rfl⟩
theorem alloc_same (S : PG) (h : (allocP S).2.2 = 0) : (allocP S).1.f = S.f ∧ (allocP S).1.s = S.s ∧ (allocP S).1.n = S.n := by
  cases hF : (refill S).F with
  | nil => rw [allocP_nil hF] at h; cases h
  | cons a t =>
    rw [allocP_cons hF]
    show (refill S).f = _ ∧ (refill S).s = _ ∧ (refill S).n = _
    unfold refill; split
    · exact ⟨rfl, rfl, rfl⟩
    · split <;> exact ⟨rfl, rfl, rfl⟩
theorem agree_nil (e : Agree L L' []) : ∀ i, L'.getD i 0 = L.getD i 0 := fun i => e.2 i fun x hx => by cases hx
theorem EntK.still (h : EntK H L H' L U) (e : Agree L L' []) : EntK H L H' L' U := fun y hy X hX o ho hr => ⟨(h y hy X hX o ho hr).1, fun i h1 h2 => agree_nil e i⟩
theorem ent_local (g : GoodH H) (h : HU H L U) (c : Int) (hL : Agree L L' (localH H c).2.2.2) : EntK H L (localH H c).1 L' U := by
  rcases localH_cases g c with ⟨_, _, H1, X, o, h1, h2, h3, h4, h5, h6, e⟩ | ⟨H1, e0, h1, h2, h3, e⟩
  · rw [e] at hL ⊢
    have hX1 : X ∈ H1.B := by rw [h1]; exact h3
    refine (EntK.rows (L := L) (U := U) h1).trans (ent_put h2 hX1 h4 (alloc_same _ h6) fun y hy Z hZ z hz hr => keep_of hL fun x hx => ?_)
    rw [h1] at hZ
    exact news_apart g h h3 h4 hy hZ hz hr x hx
  · rw [e] at hL ⊢
    exact (EntK.rows h1).still hL
theorem ent_fresh (g : GoodH H) (h : HU H L U) {op pp a sl : Nat} {c : Int} (hX : X ∈ H.B) (hb : ¬ badF c (sl : Int)) (ha : MarkMath.low X.K (wdOf c sl) = some a) (hp : ∀ o ∈ X.L, o.pp ≠ pp) (hL : Agree L L' (newsOf (newPG (fromS X.pl a) (szOf c sl) (nOf c)))) (hlen : (X.pl + 1) * 16384 ≤ L.length) (hbig : L.length ≤ 1048576) : EntK H L (freshH H X op pp c sl a) L' U := by
  obtain ⟨p1, p2, p3, p4⟩ := planned hb
  have hlow := MarkMath.low_some p1 ha
  have hfree := (g.seg X hX).g.free p1 hlow.1
  have hrc := p4 op pp a (fromS X.pl a)
  have hsz := hrc.size p1
  change 16 ≤ szOf c sl ∧ 1 ≤ nOf c ∧ nOf c ≤ 64 ∧ nOf c * szOf c sl ≤ wdOf c sl * 1024 at hsz
  intro y hy Z hZ z hz hr
  have gz := (h.wh Z hZ z hz).1
  have hb2 := h.page g hy hZ hz hr
  have hfz := hb2.fits gz.made (Nat.le_refl _)
  have hfy := (inRun_iff.1 hr).1
  have hwz := (g.seg Z hZ).g.within hz
  have hfitz := (g.seg Z hZ).g.fit z hz
  refine ⟨?_, keep_of hL fun x hx => ?_⟩
  · by_cases e : Z.pl = X.pl
    · have ez := pl_one g.pls hZ hX e
      subst ez
      have hlo : z.lo ≠ a := by have := hfree.2.2 z hz; omega
      exact ⟨_, mem_setB.2 (.inl ⟨rfl, Z, hZ, rfl⟩), z, put_mem.2 ⟨z, insR_mem.2 (.inr ⟨hz, hlo⟩), by rw [if_neg (hp z hz)]⟩, rfl, rfl, rfl⟩
    · exact ⟨Z, mem_setB.2 (.inr ⟨hZ, e⟩), z, hz, rfl, rfl, rfl⟩
  · unfold newsOf at hx
    split at hx
    · obtain ⟨j, hj, ej⟩ := news_mem hx
      change x = fromS X.pl a + (0 + j) * szOf c sl at ej
      have hjn : j < nOf c := by
        have hm : moreN (newPG (fromS X.pl a) (szOf c sl) (nOf c)) ≤ nOf c := by
          unfold moreN newPG; simp only []; split <;> omega
        omega
      have hst := mul_step (s := szOf c sl) hjn
      have e0 : (0 + j) * szOf c sl = j * szOf c sl := by rw [Nat.zero_add]
      unfold fromS at *
      by_cases e : Z.pl = X.pl
      · have ez := pl_one g.pls hZ hX e
        subst ez
        have h1 := hfree.2.2 z hz
        rcases h1 with h1 | h1
        · right; omega
        · left; omega
      · rcases Nat.lt_or_gt_of_ne e with h1 | h1
        · right; omega
        · left; omega
    · cases hx
/-- Whatever page there is behind a Free was there ahead of it. -/
theorem pages_tidy (X : SG) (o : OwR) (hX : X ∈ H.B) : ∀ X' ∈ (tidyH H A X o).1.B, ∀ o' ∈ X'.L, ∃ Z ∈ H.B, o' ∈ Z.L := by
  have hc : ∀ X' ∈ (H.setB (X.cut o)).B, ∀ o' ∈ X'.L, ∃ Z ∈ H.B, o' ∈ Z.L := fun X' hX' o' ho' => by
    rcases mem_setB.1 hX' with ⟨rfl, _⟩ | ⟨h1, _⟩
    · exact ⟨X, hX, (List.mem_filter.1 (show o' ∈ X.L.filter _ from ho')).1⟩
    · exact ⟨X', h1, ho'⟩
  unfold tidyH
  split
  · exact fun X' hX' o' ho' => ⟨X', hX', ho'⟩
  · split
    · exact fun X' hX' o' ho' => hc X' (mem_cutB.1 hX').1 o' ho'
    · exact hc
theorem pages_free (g : GoodH H) (a : Nat) : ∀ X' ∈ (freeH H A a).1.1.B, ∀ o' ∈ X'.L, ∃ Z ∈ H.B, ∃ z ∈ Z.L, o'.P.f = z.P.f ∧ o'.P.s = z.P.s ∧ o'.P.n = z.P.n := by
  unfold freeH
  cases he : findH H a with
  | none => exact fun X' hX' o' ho' => ⟨X', hX', o', ho', rfl, rfl, rfl⟩
  | some zz =>
    obtain ⟨X, o⟩ := zz
    obtain ⟨hX, hf⟩ := findH_some he
    have ho := (findO_some hf).1
    simp only []
    split
    · exact fun X' hX' o' ho' => ⟨X', hX', o', ho', rfl, rfl, rfl⟩
    · intro X' hX' o' ho'
      obtain ⟨Z, hZ, hz⟩ := pages_tidy (H := wokeH H X o (free1 o.P a).1) (X.put o.pp (free1 o.P a).1) { o with P := (free1 o.P a).1 } (mem_setB.2 (.inl ⟨rfl, X, hX, rfl⟩)) X' hX' o' ho'
      rcases mem_setB.1 hZ with ⟨rfl, _⟩ | ⟨hZ, _⟩
      · obtain ⟨u, hu, rfl⟩ := put_mem.1 hz
        by_cases e : u.pp = o.pp
        · rw [if_pos e]
          have := pp_only (g.seg X hX) ho hu e
          subst this
          have hs := free1_same u.P a
          exact ⟨X, hX, u, hu, hs.1, hs.2.1, hs.2.2⟩
        · rw [if_neg e]; exact ⟨X, hX, u, hu, rfl, rfl, rfl⟩
      · exact ⟨Z, hZ, o', hz, rfl, rfl, rfl⟩
theorem ent_free (g : GoodH H) (h : HU H L U) {x : Nat} (e : (x :: V).Perm U) (hL : Agree L L' [x]) (h' : HU (freeH H A x).1.1 L' V) : EntK H L (freeH H A x).1.1 L' V := by
  intro y hy Z hZ z hz hr
  have hyU : y ∈ U := e.mem_iff.1 (List.mem_cons_of_mem _ hy)
  have hxU : x ∈ U := e.mem_iff.1 (List.mem_cons_self ..)
  have hne : x ≠ y := fun ex => by
    have := (e.nodup_iff).2 h.nd
    rw [List.nodup_cons] at this
    exact this.1 (ex ▸ hy)
  refine ⟨?_, keep_of hL fun x' hx' => ?_⟩
  · obtain ⟨X', hX', o', ho', hr'⟩ := h'.at' y hy
    obtain ⟨Z2, hZ2, z2, hz2, e1, e2, e3⟩ := pages_free g x X' hX' o' ho'
    have hr2 : inRun z2.P y = true := by rw [← inRun_same ⟨e1, e2, e3⟩]; exact hr'
    obtain ⟨rfl, rfl⟩ := inRun_one g hZ2 hz2 hZ hz hr2 hr
    exact ⟨X', hX', o', ho', e1, e2, e3⟩
  · rw [List.mem_singleton.1 hx']
    obtain ⟨X, hX, o, ho, hb, _⟩ := h.blk g hxU
    have hb2 := h.page g hyU hZ hz hr
    have hs := (h.wh X hX o ho).1.s16
    have := h.apart g hxU hyU hne hX ho hZ hz hb hb2
    omega
end
end Go.Proofs.YtmjeelnidiijdaaGreatDoor.HeapMath
/- A heap of a law's own, with its bytes (layer 12): each call on it. -/
namespace Go.Proofs.YtmjeelnidiijdaaGreatDoor
open Go.RowKit ListMath PageMath GeoMath SegMath ClassMath HeapMath QueueMath ArenaMath
set_option linter.unusedVariables false

section
variable {w0 : World}
structure OX (C : SgC w0) (K : HpC w0 C) (h id p g q : Nat) (H : HS) (A : St) (L U : List Nat) (S : Nat → Prop) (w : World) : Prop where
  ex : ∃ O own B, Hz C K.Hp w h O id p g q own L A B [] H.Q ∧ (B.map fun b => b.X) = H.B ∧ HU H L U ∧ ∀ k, HO p g own O B k → w0.heap.size ≤ k ∧ ¬ S k
  below : Below w0.heap.size w0 w
  lt : ∀ k, S k → k < w.heap.size
end
section
variable {w0 w w' w2 : World} {C : SgC w0} {K : HpC w0 C} {h id p g q : Nat} {O O' own own' : Nat → Prop} {L L' Y U U' V : List Nat} {A A' : St} {B B' R : List SB} {H H' : HS} {M D : List Nat → Prop} {S : Nat → Prop}
theorem OH.ox {n : Nat} (z : OH C K h id p g q H A n U S w) : ∃ L, L.length = n ∧ OX C K h id p g q H A L U S w := by
  obtain ⟨⟨O, own, L, B, hz, h1, h2, h3, h4⟩, h5, h6⟩ := z
  exact ⟨L, h2, ⟨O, own, B, hz, h1, h3, h4⟩, h5, h6⟩
theorem OX.oh (z : OX C K h id p g q H A L U S w) : OH C K h id p g q H A L.length U S w := by
  obtain ⟨⟨O, own, B, hz, h1, h3, h4⟩, h5, h6⟩ := z
  exact ⟨⟨O, own, L, B, hz, h1, rfl, h3, h4⟩, h5, h6⟩
theorem OX.turned (hb : Below w0.heap.size w0 w) (hS : ∀ k, S k → k < w.heap.size) (hlo : ∀ k, HO p g own O B k → w0.heap.size ≤ k ∧ ¬ S k) (t : Turned C K.Hp w h O id p g q own L B [] w2 H' A' M)
    (hu : ∀ L', L'.length = L.length → M L' → (∀ X ∈ H'.B, ∀ o ∈ X.L, GoodP L' o.P) → HU H' L' U' ∧ D L') : ∃ L', L'.length = L.length ∧ D L' ∧ OX C K h id p g q H' A' L' U' S w2 ∧ Still S w w2 := by
  obtain ⟨O', own', L', B', hz, hB, hll, ha, hg, u⟩ := t
  have u' : Upd (fun k => w0.heap.size ≤ k ∧ ¬ S k) w w2 := u.mono hlo
  have hk := hu L' hll ha fun X hX o ho => by
    rw [← hB] at hX
    obtain ⟨b, hb', rfl⟩ := List.mem_map.1 hX
    exact ((hz.env.shop.sg b (List.mem_append_left _ hb')).pg o ho).2.1
  exact ⟨L', hll, hk.2, ⟨⟨O', own', B', hz, hB, hk.1, fun k hk => (hg k hk).elim (hlo k) fun h => ⟨Nat.le_trans hb.size h, fun hs => by have := hS k hs; omega⟩⟩, hb.trans (u'.below (fun k hk => hk.1) hb.size), fun k hk => Nat.lt_of_lt_of_le (hS k hk) (u'.below (fun k hk => hk.1) hb.size).size⟩, u'.mono fun k hk => hk.2⟩
theorem OX.grew (z : OX C K h id p g q H A L U S w) (hb : Below w.heap.size w w') : OX C K h id p g q H A L U S w' := by
  obtain ⟨⟨O, own, B, hz, h1, h3, h4⟩, h5, h6⟩ := z
  exact ⟨⟨O, own, B, hz.grew hb, h1, h3, h4⟩, below_then h5 h5.size hb, fun k hk => Nat.lt_of_lt_of_le (h6 k hk) hb.size⟩
theorem OX.lo (z : OX C K h id p g q H A L U S w) : ∃ P : Nat → Prop, (∀ k, P k → w0.heap.size ≤ k ∧ ¬ S k ∧ k < w.heap.size) ∧ ∀ {w' : World} {T : Nat → Prop}, Upd T w w' → (∀ k, T k → ¬ P k ∧ w0.heap.size ≤ k) → OX C K h id p g q H A L U S w' := by
  obtain ⟨⟨O, own, B, hz, h1, h3, h4⟩, h5, h6⟩ := z
  refine ⟨HO p g own O B, fun k hk => ⟨(h4 k hk).1, (h4 k hk).2, HO.lt hz hk⟩, fun {w'} {T} u hT => ?_⟩
  have hb : Below w0.heap.size w w' := u.below (fun k hk => (hT k hk).2) h5.size
  exact ⟨⟨O, own, B, hz.upd u fun k hk => ⟨fun e => (hT k hk).1 (.inl e), fun e => (hT k hk).1 (.inr (by rw [List.append_nil] at e; exact e))⟩, h1, h3, h4⟩, h5.trans hb, fun k hk => Nat.lt_of_lt_of_le (h6 k hk) hb.size⟩
/-- A block of the law's own. -/
theorem OX.mine (z : OX C K h id p g q H A L U S w) (o : Obj) : OX C K h id p g q H A L U (fun k => S k ∨ k = w.heap.size) (w.alloc o) := by
  obtain ⟨⟨O, own, B, hz, h1, h3, h4⟩, h5, h6⟩ := z
  have hg : Below w.heap.size w (w.alloc o) := (Below.refl _ _).alloc (Nat.le_refl _) o
  refine ⟨⟨O, own, B, hz.grew hg, h1, h3, fun k hk => ⟨(h4 k hk).1, fun e => ?_⟩⟩, below_then h5 h5.size hg, fun k hk => ?_⟩
  · rcases e with e | e
    · exact (h4 k hk).2 e
    · have := HO.lt hz hk; omega
  · have h7 : (w.alloc o).heap.size = w.heap.size + 1 := by simp
    rcases hk with hk | hk
    · have := h6 k hk; omega
    · omega
/-- All blocks since w that there are now are the law's own. -/
theorem OX.ours (z : OX C K h id p g q H A L U S w) (hb : Below w.heap.size w w') : OX C K h id p g q H A L U (fun k => S k ∨ (w.heap.size ≤ k ∧ k < w'.heap.size)) w' := by
  obtain ⟨⟨O, own, B, hz, h1, h3, h4⟩, h5, h6⟩ := z
  refine ⟨⟨O, own, B, hz.grew hb, h1, h3, fun k hk => ⟨(h4 k hk).1, fun e => ?_⟩⟩, below_then h5 h5.size hb, fun k hk => ?_⟩
  · rcases e with e | e
    · exact (h4 k hk).2 e
    · have := HO.lt hz hk; omega
  · rcases hk with hk | hk
    · exact Nat.lt_of_lt_of_le (h6 k hk) hb.size
    · exact hk.2
theorem OX.forget {S' : Nat → Prop} (z : OX C K h id p g q H A L U S w) (hs : ∀ k, S' k → S k) : OX C K h id p g q H A L U S' w := by
  obtain ⟨⟨O, own, B, hz, h1, h3, h4⟩, h5, h6⟩ := z
  exact ⟨⟨O, own, B, hz, h1, h3, fun k hk => ⟨(h4 k hk).1, fun e => (h4 k hk).2 (hs k e)⟩⟩, h5, fun k hk => h6 k (hs k hk)⟩
theorem OX.drew (z : OX C K h id p g q H A L U S w) : OX C K h id p g q H A L U S w.drew := z.grew (Below.refl _ _).drew
theorem OX.alloc (z : OX C K h id p g q H A L U S w) (o : Obj) : OX C K h id p g q H A L U S (w.alloc o) := z.grew ((Below.refl _ _).alloc (Nat.le_refl _) o)
theorem OX.good (z : OX C K h id p g q H A L U S w) : GoodH H := z.oh.good
theorem OX.hu (z : OX C K h id p g q H A L U S w) : HU H L U := by
  obtain ⟨⟨O, own, B, hz, h1, h3, h4⟩, h5, h6⟩ := z
  exact h3
theorem HU.perm_ (h : HU H L U) (e : U.Perm V) : HU H L V := ⟨fun X hX o ho => by
    obtain ⟨k1, P, k2⟩ := h.wh X hX o ho
    exact ⟨k1, P, k2.perm (e.filter _)⟩, fun x hx => h.at' x (e.mem_iff.2 hx), (e.nodup_iff).1 h.nd⟩
theorem OX.perm (z : OX C K h id p g q H A L U S w) (e : U.Perm V) : OX C K h id p g q H A L V S w := by
  obtain ⟨⟨O, own, B, hz, h1, h3, h4⟩, h5, h6⟩ := z
  exact ⟨⟨O, own, B, hz, h1, HU.perm_ h3 e, h4⟩, h5, h6⟩
theorem OX.u64 (z : OX C K h id p g q H A L U S w) {x : Nat} (hx : x ∈ U) : U64B x := by
  obtain ⟨X, hX, o, ho, hb, _⟩ := z.hu.blk z.good hx
  have k := (z.hu.wh X hX o ho).1
  have h1 := hb.fits k.made (Nat.le_refl (o.P.f + o.P.n * o.P.s)); have h2 := k.fit; have h3 := k.big
  unfold U64B; omega
theorem ox_grow (z : OX C K h id p g q H A L U S w) (hr : A.r ≤ 1000000000000) :
    Calls Tryz.prog 26 #[.pointer (some ⟨h, 0, none⟩)] w fun e w' => e = .returned (.int .i64 (growH H A id).2.1) ∧ OX C K h id p g q (growH H A id).1 (growH H A id).2.2 L U S w' ∧ Still S w w' := by
  obtain ⟨⟨O, own, B, hz, h1, h3, h4⟩, h5, h6⟩ := z
  have e : hsOf B H.Q = H := by unfold hsOf; rw [h1]
  have k := K.grow w h5 hz hr
  rw [e] at k
  refine k.mono fun e w' ⟨k1, k2⟩ => ⟨k1, ?_⟩
  obtain ⟨L', _, e1, k3⟩ := OX.turned (D := fun L' => L' = L) h5 h6 h4 k2 fun L' _ ha _ => by rw [show L' = L from ha]; exact ⟨h3.grow (Agree.refl _ _), rfl⟩
  rw [show L' = L from e1] at k3
  exact k3
theorem ox_local (z : OX C K h id p g q H A L U S w) {c : Int} (hc : I64B c) :
    Calls Tryz.prog 45 #[.pointer (some ⟨h, 0, none⟩), .int .i64 c] w fun e w' => ∃ (x : Nat) (er : Int) (H' : HS) (L' : List Nat), e = .returned (.tuple #[.int .u64 (x : Int), .int .i64 er]) ∧ L'.length = L.length ∧ EntK H L H' L' U ∧ Still S w w' ∧
      ((er = 0 ∧ x ∉ U ∧ OX C K h id p g q H' A L' (U ++ [x]) S w' ∧ ∃ X ∈ H'.B, ∃ o ∈ X.L, qi o.cls = qi c ∧ IsBlk o.P.f o.P.s o.P.made x) ∨ (er ≠ 0 ∧ x = 0 ∧ H'.B = H.B ∧ OX C K h id p g q H' A L' U S w')) ∧ (x, er, H') = ((localH H c).2.1, (localH H c).2.2.1, (localH H c).1) := by
  have hgood := z.good
  obtain ⟨⟨O, own, B, hz, h1, h3, h4⟩, h5, h6⟩ := z
  have e : hsOf B H.Q = H := by unfold hsOf; rw [h1]
  have k := K.local' w h5 hz hc
  rw [e] at k
  refine k.mono fun e w' ⟨k1, k2⟩ => ?_
  have k3 := k2
  obtain ⟨_, _, L1, B1, hz1, hB1, _, ha1, _, _⟩ := k3
  have hg1 : ∀ X ∈ (localH H c).1.B, ∀ o ∈ X.L, GoodP L1 o.P := fun X hX o ho => by
    rw [← hB1] at hX
    obtain ⟨b, hb', rfl⟩ := List.mem_map.1 hX
    exact ((hz1.env.shop.sg b (List.mem_append_left _ hb')).pg o ho).2.1
  rcases h3.local' hgood c ha1 hg1 with ⟨c1, c2, c3, c4⟩ | ⟨c1, c2, c3, c4⟩
  · obtain ⟨L', e1, e2, e3, e4⟩ := OX.turned (D := fun L' => EntK H L (localH H c).1 L' U) h5 h6 h4 k2 fun L' _ ha hg => by
      rcases h3.local' hgood c ha hg with ⟨_, _, d3, _⟩ | ⟨d1, _⟩
      · exact ⟨d3, ent_local hgood h3 c ha⟩
      · exact absurd c1 d1
    exact ⟨_, _, _, L', k1, e1, e2, e4, .inl ⟨c1, c2, e3, c4⟩, rfl⟩
  · obtain ⟨L', e1, e2, e3, e4⟩ := OX.turned (D := fun L' => EntK H L (localH H c).1 L' U) h5 h6 h4 k2 fun L' _ ha hg => by
      rcases h3.local' hgood c ha hg with ⟨d1, _⟩ | ⟨_, _, _, d4⟩
      · exact absurd d1 c1
      · exact ⟨d4, ent_local hgood h3 c ha⟩
    exact ⟨_, _, _, L', k1, e1, e2, e4, .inr ⟨c1, c2, c3, e3⟩, rfl⟩
theorem ox_fresh (z : OX C K h id p g q H A L U S w) {c sl sg : Int} {us : Nat} (hc : I64B c) (hs : I64B sl) (hg : I64B sg) (hu : U64B us) :
    Calls Tryz.prog 28 #[.pointer (some ⟨h, 0, none⟩), .agg #[.int .i64 c, .int .i64 sl, .int .i64 sg, .int .u64 (us : Int)]] w fun e w' => ∃ (x : Nat) (er : Int) (H' : HS) (L' : List Nat), e = .returned (.tuple #[.int .u64 (x : Int), .int .i64 er]) ∧ L'.length = L.length ∧ EntK H L H' L' U ∧ Still S w w' ∧
      ((er = 0 ∧ ¬ badF c sl ∧ x ∉ U ∧ OX C K h id p g q H' A L' (U ++ [x]) S w' ∧ Freshed H c sl x H' ∧ ∃ Z ∈ H'.B, ∃ o ∈ Z.L, o.cls = c ∧ o.P.s = szOf c sl.toNat ∧ IsBlk o.P.f o.P.s o.P.made x) ∨ (er ≠ 0 ∧ x = 0 ∧ H' = H ∧ L' = L ∧ OX C K h id p g q H A L U S w' ∧ (badF c sl ∨ roomH H (wdOf c sl.toNat) = none))) := by
  have hgood := z.good
  have z0 := z
  obtain ⟨⟨O, own, B, hz, h1, h3, h4⟩, h5, h6⟩ := z
  have e : hsOf B H.Q = H := by unfold hsOf; rw [h1]
  by_cases hb : badF c sl
  · exact (K.fresh_bad w h5 hz hc hs hg hu hb).mono fun e w' ⟨k1, k2⟩ => ⟨0, 2, H, L, k1, rfl, EntK.refl H L U, updFalse_of k2 |>.mono fun _ x => x.elim, .inr ⟨by decide, rfl, rfl, rfl, z0.grew k2, .inl hb⟩⟩
  · cases hr : roomH H (wdOf c sl.toNat) with
    | none => exact (K.fresh_full w h5 hz hc hs hg hu hb (by rw [e]; exact hr)).mono fun e w' ⟨k1, k2⟩ => ⟨0, 4, H, L, k1, rfl, EntK.refl H L U, updFalse_of k2 |>.mono fun _ x => x.elim, .inr ⟨by decide, rfl, rfl, rfl, z0.grew k2, .inr rfl⟩⟩
    | some y =>
      obtain ⟨X, a⟩ := y
      obtain ⟨hX, ha⟩ := roomH_some hr
      have k := K.fresh w h5 hz hc hs hg hu hb (by rw [e]; exact hr)
      rw [e] at k
      refine k.mono fun e w' ⟨op, pp, k1, k2, k3, k4⟩ => ?_
      have hb' := badF_nat hb
      have hX' : X ∈ B.map fun b => b.X := by rw [h1]; exact hX
      obtain ⟨b, hbB, rfl⟩ := List.mem_map.1 hX'
      have hsg := hz.env.shop.sg b (List.mem_append_left _ hbB)
      have hp : ∀ o ∈ b.X.L, o.pp ≠ pp := fun o ho e => by
        have := (hsg.pg o ho).1.lt
        omega
      have hlen : (b.X.pl + 1) * 16384 ≤ L.length := hsg.len.1
      have k5 := k4
      obtain ⟨_, _, L1, B1, hz1, hB1, _, ha1, _, _⟩ := k5
      have hg1 : ∀ X' ∈ (freshH H b.X op pp c sl.toNat a).B, ∀ o ∈ X'.L, GoodP L1 o.P := fun X' hX' o ho => by
        rw [← hB1] at hX'
        obtain ⟨b', hb'', rfl⟩ := List.mem_map.1 hX'
        exact ((hz1.env.shop.sg b' (List.mem_append_left _ hb'')).pg o ho).2.1
      obtain ⟨c1, c2, c3⟩ := h3.fresh' hgood hX hb' ha hp ha1 hg1 hlen hsg.len.2
      obtain ⟨L', e1, e2, e3, e4⟩ := OX.turned (D := fun L' => EntK H L (freshH H b.X op pp c sl.toNat a) L' U) h5 h6 h4 k4 fun L' _ ha' hg' => ⟨(h3.fresh' hgood hX hb' ha hp ha' hg' hlen hsg.len.2).2.1, ent_fresh hgood h3 hX hb' ha hp ha' hlen hsg.len.2⟩
      exact ⟨_, 0, _, L', k1, e1, e2, e4, .inl ⟨rfl, hb, c1, e3, ⟨b.X, a, op, pp, hr, hp, rfl, rfl⟩, c3⟩⟩
/-- A block that is used goes back. -/
theorem ox_free (z : OX C K h id p g q H A L U S w) {x : Nat} (e : (x :: U').Perm U) (hx : U64B x) :
    Calls Tryz.prog 15 #[.pointer (some ⟨h, 0, none⟩), .int .u64 (x : Int)] w fun e w' => e = .returned (.int .i64 0) ∧ ∃ L', L'.length = L.length ∧ EntK H L (freeH H A x).1.1 L' U' ∧ OX C K h id p g q (freeH H A x).1.1 (freeH H A x).1.2 L' U' S w' ∧ Still S w w' := by
  have hgood := z.good
  obtain ⟨⟨O, own, B, hz, h1, h3, h4⟩, h5, h6⟩ := z
  have eH : hsOf B H.Q = H := by unfold hsOf; rw [h1]
  have hxU : x ∈ U := e.mem_iff.1 (List.mem_cons_self ..)
  have hne : ∀ X o, findH (hsOf B H.Q) x = some (X, o) → givenE o.P x = 0 → x ∉ o.P.F ∧ x ∉ o.P.G := fun X o hf _ => by
    rw [eH] at hf
    obtain ⟨hX, ho⟩ := findH_some hf
    have ho := (findO_some ho).1
    obtain ⟨Z, hZ, u, hu, hb, hf2⟩ := h3.blk hgood hxU
    rw [hf] at hf2
    cases hf2
    obtain ⟨k1, P, k2⟩ := h3.wh X hX o ho
    have := k2.ne.1 x (List.mem_filter.2 ⟨hxU, inRun_blk hb k1.made k1.s16⟩)
    exact ⟨this.1, this.2.1⟩
  have k := K.free w h5 hz hx hne
  rw [eH] at k
  refine k.mono fun e' w' ⟨k1, k2⟩ => ⟨by rw [k1, h3.free0 hgood e], OX.turned (D := fun L' => EntK H L (freeH H A x).1.1 L' U') h5 h6 h4 k2 fun L' _ ha _ => ?_⟩
  have hh := (h3.free (A := A) hgood e ha.1 fun X hX o ho hr => ha.2 X o (findH_run hgood hX ho hr)).2
  exact ⟨hh, ent_free hgood h3 e ha.1 hh⟩
end
end Go.Proofs.YtmjeelnidiijdaaGreatDoor
/- Layer 12: how many pages there are. -/
namespace Go.Proofs.YtmjeelnidiijdaaGreatDoor.HeapMath
open ListMath GeoMath PageMath ClassMath SegMath QueueMath
open ArenaMath (St reserve release)
set_option linter.unusedVariables false

theorem ints_bound : ∀ (n : Nat) {l : List Int}, l.Nodup → (∀ x ∈ l, 0 ≤ x ∧ x < (n : Int)) → l.length ≤ n
  | 0, l, _, hb => by
    cases l with
    | nil => exact Nat.le_refl _
    | cons x t => have := hb x (List.mem_cons_self ..); omega
  | n + 1, l, hn, hb => by
    by_cases h : (n : Int) ∈ l
    · have h1 := out_length hn h
      have h2 := ints_bound n (l := out l (n : Int)) (out_nodup hn _) fun x hx => by
        obtain ⟨h3, h4⟩ := mem_out.1 hx
        have := hb x h3
        omega
      omega
    · have := ints_bound n hn fun x hx => by
        have h1 := hb x hx
        have h2 : x ≠ (n : Int) := fun e => h (e ▸ hx)
        omega
      omega
theorem q_len {H : HS} (g : GoodH H) (i : Nat) : (H.Q i).all.length ≤ 1024 := ints_bound 1024 (g.q i).nd fun x hx => by
  obtain ⟨X, hX, o, ho, _, e⟩ := (g.mem i x).1 hx
  have := key_le (g.seg X hX) ho
  rw [e]; omega
theorem grow_r (H : HS) (A : St) (id : Nat) : (growH H A id).2.2.r ≤ A.r + 1 := by
  have := (ArenaMath.reserve_same A 1).2.2
  unfold growH
  split <;> exact this
end Go.Proofs.YtmjeelnidiijdaaGreatDoor.HeapMath
/- The laws' 'get' of layer 12. -/
namespace Go.Proofs.YtmjeelnidiijdaaGreatDoor
open Go.RowKit ListMath PageMath GeoMath SegMath ClassMath HeapMath QueueMath ArenaMath
set_option linter.unusedVariables false
set_option maxRecDepth 100000

/-- What is asked for, as a plan: a class, or so many slices. -/
structure Planned (n : Nat) (P : Pl) : Prop where
  c : -1 ≤ P.c ∧ P.c ≤ 11
  ok : ¬ badF P.c (P.sl : Int)
  us : P.us = szOf P.c P.sl
  sg : P.sg = 0
  sl : P.sl ≤ 15
  fit : n ≤ P.us ∧ P.us ≤ 15360
theorem planned_of (n : Nat) (h : n ≤ 15360) : ∃ P, forN n 1 = (P, 0) ∧ Planned n P := by
  by_cases h1 : n ≤ 1024
  · obtain ⟨c, e, h2, h3, _, _⟩ := forN_small (a := 1) (by decide) h1
    have hb := size_class c h2
    refine ⟨_, e, ⟨by show -1 ≤ (c : Int) ∧ (c : Int) ≤ 11; omega, ?_, ?_, rfl, by show slicesAt c ≤ 15; omega, h3, ?_⟩⟩
    · show ¬ badF (c : Int) _
      unfold badF; omega
    · show sizeAt c = szOf (c : Int) _
      unfold szOf; rw [if_neg (by omega), Int.toNat_natCast]
    · show sizeAt c ≤ 15360
      have : sizeAt c * 1 ≤ sizeAt c * blocksAt c := Nat.mul_le_mul_left _ (by omega)
      omega
  · have h2 : 1024 < n := by omega
    have e := forN_mid (a := 1) (by decide) h2 h
    have u1 : 1 ≤ up n 1024 := up_pos (by decide) (by omega)
    have u2 := up_fit (n := n) (u := 1024) (by decide)
    refine ⟨_, e, ⟨by show -1 ≤ (-1 : Int) ∧ (-1 : Int) ≤ 11; decide, ?_, rfl, rfl, ?_, ?_, ?_⟩⟩
    · show ¬ badF (-1) (up n 1024 : Int)
      unfold badF; unfold up at *; omega
    · show up n 1024 ≤ 15
      unfold up at *; omega
    · show n ≤ up n 1024 * 1024
      unfold up at *; omega
    · show up n 1024 * 1024 ≤ 15360
      unfold up at *; omega
theorem low_new : ∀ wd : Fin 16, 1 ≤ wd.1 → MarkMath.low newK wd.1 = some 1 := by decide
theorem room_new {B : List SG} {Q : Nat → QR} {id pl wd : Nat} (h1 : 1 ≤ wd) (h2 : wd ≤ 15) : roomH ⟨B ++ [ownedSG id pl], Q⟩ wd ≠ none := fun h => by
  have := roomH_none h (ownedSG id pl) (List.mem_append_right _ (List.mem_singleton.2 rfl))
  have e := low_new ⟨wd, by omega⟩ h1
  change MarkMath.low newK wd = none at this
  rw [e] at this; cases this
/-- Which way get goes for a plan of class c, slices sl: x given (or none), what the heap is then, and the arena. -/
def locH (H : HS) (c : Int) : HS := if 0 ≤ c then (localH H c).1 else H
inductive Way (H : HS) (A : St) (id : Nat) (c : Int) (sl : Nat) : Nat → Bool → HS → St → Prop
  | loc : 0 ≤ c → (localH H c).2.2.1 = 0 → Way H A id c sl (localH H c).2.1 true (localH H c).1 A
  | new {x : Nat} {H' : HS} : (0 ≤ c → (localH H c).2.2.1 ≠ 0) → Freshed (locH H c) c (sl : Int) x H' → Way H A id c sl x true H' A
  | full : (0 ≤ c → (localH H c).2.2.1 ≠ 0) → roomH (locH H c) (wdOf c sl) = none → (growH (locH H c) A id).2.1 ≠ 0 → Way H A id c sl 0 false (growH (locH H c) A id).1 (growH (locH H c) A id).2.2
  | more {x : Nat} {H' : HS} : (0 ≤ c → (localH H c).2.2.1 ≠ 0) → roomH (locH H c) (wdOf c sl) = none → (growH (locH H c) A id).2.1 = 0 → GoodH (growH (locH H c) A id).1 → Freshed (growH (locH H c) A id).1 c (sl : Int) x H' → Way H A id c sl x true H' (growH (locH H c) A id).2.2
section
variable {w : World} {C : SgC w} {K : HpC w C} {h id p g q : Nat} {H : HS} {A : St} {L U : List Nat} {S : Nat → Prop} {w' : World}
/-- What get has made: a block more is used, or none. -/
structure GotB (K : HpC w C) (h id p g q : Nat) (H : HS) (A : St) (L U : List Nat) (S : Nat → Prop) (wa wb : World) (nn x us : Nat) (ok : Bool) (P : Pl) (H' : HS) (A' : St) (L' : List Nat) : Prop where
  plan : forN (nn % 15361) 1 = (P, 0)
  pl : Planned (nn % 15361) P
  way : Way H A id P.c P.sl x ok H' A'
  len : L'.length = L.length
  ent : EntK H L H' L' U
  r : A'.r ≤ A.r + 1
  hit : ok = true → us = P.us ∧ x ∉ U ∧ OX C K h id p g q H' A' L' (U ++ [x]) S wb ∧ ∃ X ∈ H'.B, ∃ o ∈ X.L, qi o.cls = qi P.c ∧ o.P.s = us ∧ IsBlk o.P.f o.P.s o.P.made x
  miss : ok = false → OX C K h id p g q H' A' L' U S wb
  still : Still S wa wb
end
theorem cls_size {X : SG} (g : GoodG X) {o : OwR} (ho : o ∈ X.L) {c : Int} {sl : Nat} (h0 : 0 ≤ c) (h1 : c ≤ 11) (e : qi o.cls = qi c) : o.P.s = szOf c sl := by
  unfold szOf
  rw [if_neg (by omega)]
  rcases g.cls o ho with ⟨k1, _⟩ | ⟨d, k1, k2, _, k3, _⟩
  · rw [k1] at e; unfold qi at e; rw [if_pos (by decide), if_neg (by omega)] at e; omega
  · rw [k2] at e; unfold qi at e; rw [if_neg (by omega), if_neg (by omega)] at e
    rw [k3]; congr 1
end Go.Proofs.YtmjeelnidiijdaaGreatDoor
/- The laws' 'get' of layer 12, walked. -/
namespace Go.Proofs.YtmjeelnidiijdaaGreatDoor
open Go.RowKit ListMath PageMath GeoMath SegMath ClassMath HeapMath QueueMath ArenaMath
set_option linter.unusedVariables false
set_option maxRecDepth 100000
section
variable {w : World} {C : SgC w} {K : HpC w C} {h id p g q : Nat} {H : HS} {A : St} {L U : List Nat} {S : Nat → Prop} {w' : World}
/-- The plan's block, and the heap, at a place of get's walk. -/
structure AtP (K : HpC w C) (h id p g q : Nat) (H : HS) (A : St) (L U : List Nat) (S : Nat → Prop) (wa wb : World) (c : Int) (sl us bc : Nat) : Prop where
  z : OX C K h id p g q H A L U (fun k => S k ∨ k = bc) wb
  b : Blk wb bc 86 #[.int .i64 c, .int .i64 (sl : Int), .int .i64 0, .int .u64 (us : Int)]
  u : Still S wa wb
theorem AtP.next {H' : HS} {A' : St} {L' U' : List Nat} {wa wb wc : World} {c : Int} {sl us bc : Nat} (z : AtP K h id p g q H A L U S wa wb c sl us bc) (y : OX C K h id p g q H' A' L' U' (fun k => S k ∨ k = bc) wc) (u : Still (fun k => S k ∨ k = bc) wb wc) : AtP K h id p g q H' A' L' U' S wa wc c sl us bc :=
  ⟨y, z.b.upd u fun x => x (.inr rfl), z.u.trans (u.mono fun k hk e => hk (.inl e))⟩
theorem AtP.drew {wa wb : World} {c : Int} {sl us bc : Nat} (z : AtP K h id p g q H A L U S wa wb c sl us bc) : AtP K h id p g q H A L U S wa wb.drew c sl us bc := ⟨z.z.drew, z.b.drew, z.u.drew⟩
theorem AtP.grew {wa wb wc : World} {c : Int} {sl us bc : Nat} (z : AtP K h id p g q H A L U S wa wb c sl us bc) (hb : Below wb.heap.size wb wc) : AtP K h id p g q H A L U S wa wc c sl us bc := ⟨z.z.grew hb, z.b.grew hb, z.u.trans (updFalse_of hb |>.mono fun _ x => x.elim)⟩
theorem AtP.drewN {n : Nat} {wa wb : World} {c : Int} {sl us bc : Nat} (z : AtP K h id p g q H A L U S wa wb c sl us bc) : AtP K h id p g q H A L U S wa (wb.drewN n) c sl us bc := z.grew (below_drewN (Below.refl _ _) _)
theorem AtP.out {wa wb : World} {c : Int} {sl us bc : Nat} (z : AtP K h id p g q H A L U S wa wb c sl us bc) : OX C K h id p g q H A L U S wb := z.z.forget fun k hk => .inl hk
set_option maxHeartbeats 2000000 in
theorem get_any (F : Fo w) (z : OX C K h id p g q H A L U S w') (hr : A.r ≤ 1000000) (nn : Nat) (hn : nn ≤ 18446744073709551615) :
    Calls Tryz.prog 16 #[.pointer (some ⟨h, 0, none⟩), .int .u64 (nn : Int)] w' fun e w2 => ∃ (x us : Nat) (ok : Bool) (P : Pl) (H' : HS) (A' : St) (L' : List Nat), e = .returned (.tuple #[.int .u64 (x : Int), .int .u64 (us : Int), .bool ok]) ∧ GotB K h id p g q H A L U S w' w2 nn x us ok P H' A' L' := by
  obtain ⟨⟨c, sl, sg, us⟩, hP, hpl⟩ := planned_of (nn % 15361) (by omega)
  have PL := Lib.hid (And.intro hP hpl)
  obtain ⟨m, hm⟩ : ∃ m, nn % 15361 = m := ⟨_, rfl⟩
  rw [hm] at hP hpl
  have hm1 : Int.tmod (nn : Int) 15361 = (m : Int) := by rw [← hm]; exact (Int.ofNat_tmod _ _).symm
  have hm2 : (nn : Int) % 15361 = (m : Int) := by omega
  have HFo := F.for_ m 1 (by omega) (by decide)
  rw [hP] at HFo
  change MadeBy w _ _ (.tuple #[.agg #[.int .i64 c, .int .i64 (sl : Int), .int .i64 (sg : Int), .int .u64 (us : Int)], .int .i64 0]) at HFo
  have HF := Lib.hid HFo
  have hc : -1 ≤ c ∧ c ≤ 11 := hpl.c
  have hsl : sl ≤ 15 := hpl.sl
  obtain rfl : sg = 0 := hpl.sg
  have hus : us ≤ 15360 := hpl.fit.2
  have HUS := Lib.hid (show us = szOf c sl from hpl.us)
  have hbad : ¬ badF c (sl : Int) := hpl.ok
  have hwd := planned hbad
  have HW := Lib.hid (And.intro hwd.1 hwd.2.1)
  have HPL := Lib.hid hbad
  have Z0 := Lib.hid z
  have HR := Lib.hid hr
  clear HFo hP hpl hm z hr hn hbad hwd
  go_enter Tryz.func16, Tryz.ntmps16
  go_wp2_with fail
  refine (HF.out w' Z0.out.below).mono ?_; rintro e w1 ⟨rfl, hb⟩
  have hz1 := (Z0.out.grew hb).mine (.cells #[.int .i64 c, .int .i64 (sl : Int), .int .i64 0, .int .u64 (us : Int)] 86)
  have bA := Blk.new w1 86 #[.int .i64 c, .int .i64 (sl : Int), .int .i64 0, .int .u64 (us : Int)]
  have uA : Still S w' (w1.alloc (.cells #[.int .i64 c, .int .i64 (sl : Int), .int .i64 0, .int .u64 (us : Int)] 86)) := updFalse_of (hb.alloc hb.size _) |>.mono fun _ x => x.elim
  obtain ⟨W1, hW1⟩ : ∃ Wz, w1.alloc (.cells #[.int .i64 c, .int .i64 (sl : Int), .int .i64 0, .int .u64 (us : Int)] 86) = Wz := ⟨_, rfl⟩
  obtain ⟨bc, hbc⟩ : ∃ bz, w1.heap.size = bz := ⟨_, rfl⟩
  rw [hW1, hbc] at bA hz1
  rw [hW1] at uA
  have Z1 := Lib.hid (show AtP K h id p g q H A L U S w' W1 c sl us bc from ⟨hz1, bA, uA⟩)
  have m0 : W1.cell? ⟨bc, 0, none⟩ = some (.int .i64 c) := bA.cell 0
  clear hz1 bA hb uA
  by_cases hc0 : c < 0
  · have t1 : decide (0 ≤ c) = false := decide_eq_false (by omega)
    obtain ⟨H1, L1, hz2, hkm⟩ : ∃ H1 L1, AtP K h id p g q H1 A L1 U S w' W1 c sl us bc ∧ ((0 ≤ c → (localH H c).2.2.1 ≠ 0) ∧ L1.length = L.length ∧ EntK H L H1 L1 U ∧ locH H c = H1) := ⟨H, L, Z1.out, fun h => absurd hc0 (by omega), rfl, EntK.refl H L U, by unfold locH; rw [if_neg (by omega)]⟩
    have Z2 := Lib.hid hz2
    have KM := Lib.hid hkm
    clear hz2 hkm
    go_wp2_with (refine wpList_load_row rfl 86 _ rfl bc rfl _ _ _ _ Z2.out.b Tryz.underlying86 rfl (by kernel_rfl) ?_)
    refine (ox_fresh Z2.out.z (c := c) (sl := (sl : Int)) (sg := 0) (us := us) (by unfold I64B; omega) (by unfold I64B; omega) (by unfold I64B; omega) (by unfold U64B; omega)).mono ?_; rintro e w3 ⟨x3, er3, H3, L3, rfl, l3, k3, u3, hcase3⟩
    rcases hcase3 with ⟨rfl, hb3, hx3, y3, hf3, hpg3⟩ | ⟨he3, rfl, rfl, rfl, y3, hno⟩
    · have Z3 := Lib.hid (Z2.out.next y3 u3)
      have m3 : w3.cell? ⟨bc, 3, none⟩ = some (.int .u64 (us : Int)) := Z3.out.b.cell 3
      have K3 := Lib.hid (And.intro hx3 (And.intro hpg3 (And.intro l3 (And.intro k3 hf3))))
      clear hx3 hpg3 l3 k3 hf3 hb3 y3 u3
      go_wp2_with fail
      go_quiet (fail)
      go_wp2
      go_ret3
      obtain ⟨hx3, hpg3, l3, k3, hf3⟩ := K3.out
      obtain ⟨hm, hl, hk, hloc⟩ := KM.out
      refine ⟨x3, us, true, _, H3, A, L3, rfl, PL.out.1, PL.out.2, .new hm (by rw [hloc]; exact hf3), l3.trans hl, hk.trans k3, Nat.le_succ _, fun _ => ⟨rfl, hx3, Z3.out.drewN.out, ?_⟩, (fun e => by cases e), Z3.out.drewN.u⟩
      obtain ⟨X, hX, o, ho, e1, e2, e3⟩ := hpg3
      exact ⟨X, hX, o, ho, by rw [e1], by rw [e2, HUS.out, Int.toNat_natCast], e3⟩
    · have Z3 := Lib.hid (Z2.out.next y3 u3)
      have hroom : roomH H3 (wdOf c sl) = none := by
        rcases hno with h | h
        · exact absurd h HPL.out
        · rw [Int.toNat_natCast] at h; exact h
      have KR := Lib.hid hroom
      have hd3 : decide (er3 = 0) = false := decide_eq_false he3
      clear y3 u3 l3 k3 hroom hno
      go_wp2_with fail
      refine (ox_grow Z3.out.z (by have := HR.out; omega)).mono ?_; rintro e w4 ⟨rfl, y4, u4⟩
      have hrr := grow_r H3 A id
      obtain ⟨⟨H4, ge, A4⟩, hG⟩ : ∃ G, growH H3 A id = G := ⟨_, rfl⟩
      rw [hG] at y4 hrr
      simp only [hG]
      change OX C K h id p g q H4 A4 L3 U (fun k => S k ∨ k = bc) w4 at y4
      change A4.r ≤ A.r + 1 at hrr
      have Z4 := Lib.hid (Z3.out.next y4 u4)
      have HG := Lib.hid (And.intro hG hrr)
      clear y4 u4 hG hrr
      by_cases hge : ge = 0
      · have hg4 : decide (ge = 0) = true := decide_eq_true hge
        subst hge
        clear hg4
        go_wp2_with (refine wpList_load_row rfl 86 _ rfl bc rfl _ _ _ _ Z4.out.b Tryz.underlying86 rfl (by kernel_rfl) ?_)
        refine (ox_fresh Z4.out.z (c := c) (sl := (sl : Int)) (sg := 0) (us := us) (by unfold I64B; omega) (by unfold I64B; omega) (by unfold I64B; omega) (by unfold U64B; omega)).mono ?_; rintro e w5 ⟨x5, er5, H5, L5, rfl, l5, k5, u5, hcase5⟩
        have hB4 : ∃ pl, H4.B = H3.B ++ [ownedSG id pl] := by
          have h1 := HG.out.1
          unfold growH at h1
          split at h1
          · rename_i hh; injection h1 with _ h2; injection h2 with h2 _; exact absurd h2 hh
          · injection h1 with h2 _; exact ⟨_, by rw [← h2]⟩
        rcases hcase5 with ⟨rfl, hb5, hx5, y5, hf5, hpg5⟩ | ⟨he5, rfl, rfl, rfl, y5, hno5⟩
        · have Z5 := Lib.hid (Z4.out.next y5 u5)
          have m3 : w5.cell? ⟨bc, 3, none⟩ = some (.int .u64 (us : Int)) := Z5.out.b.cell 3
          have K5 := Lib.hid (And.intro hx5 (And.intro hpg5 (And.intro l5 (And.intro k5 hf5))))
          have KB := Lib.hid hB4
          clear hx5 hpg5 l5 k5 hf5 hb5 y5 u5 hB4
          go_wp2_with fail
          go_quiet (fail)
          go_wp2
          go_ret3
          obtain ⟨hx5, hpg5, l5, k5, hf5⟩ := K5.out
          obtain ⟨hm, hl, hk, hloc⟩ := KM.out
          obtain ⟨hG, hrr⟩ := HG.out
          obtain ⟨pl, hB⟩ := KB.out
          have hk4 : EntK H3 L3 H4 L3 U := fun y hy Z hZ z hz hr => ⟨⟨Z, by rw [hB]; exact List.mem_append_left _ hZ, z, hz, rfl, rfl, rfl⟩, fun _ _ _ => rfl⟩
          refine ⟨x5, us, true, _, H5, A4, L5, rfl, PL.out.1, PL.out.2, ?_, l5.trans hl, (hk.trans hk4).trans k5, hrr, fun _ => ⟨rfl, hx5, Z5.out.drewN.out, ?_⟩, (fun e => by cases e), Z5.out.drewN.u⟩
          · have v := Way.more (H := H) (A := A) (id := id) (c := c) (sl := sl) (x := x5) (H' := H5) hm (by rw [hloc]; exact KR.out) (by rw [hloc, hG]) (by rw [hloc, hG]; exact Z4.out.z.good) (by rw [hloc, hG]; exact hf5)
            rw [hloc, hG] at v
            exact v
          · obtain ⟨X, hX, o, ho, e1, e2, e3⟩ := hpg5
            exact ⟨X, hX, o, ho, by rw [e1], by rw [e2, HUS.out, Int.toNat_natCast], e3⟩
        · exfalso
          rcases hno5 with h | h
          · exact HPL.out h
          · obtain ⟨pl, hB⟩ := hB4
            rw [Int.toNat_natCast] at h
            have h' : roomH ⟨H3.B ++ [ownedSG id pl], H5.Q⟩ (wdOf c sl) = none := by rw [← hB]; exact h
            exact room_new HW.out.1 HW.out.2 h'
      · have hg4 : decide (ge = 0) = false := decide_eq_false hge
        go_wp2_with fail
        go_ret3
        obtain ⟨hm, hl, hk, hloc⟩ := KM.out
        obtain ⟨hG, hrr⟩ := HG.out
        have v := Way.full (H := H) (A := A) (id := id) (c := c) (sl := sl) hm (by rw [hloc]; exact KR.out) (by rw [hloc, hG]; exact hge)
        rw [hloc, hG] at v
        have hB : H4.B = H3.B := by
          unfold growH at hG
          split at hG
          · injection hG with h2 _; rw [← h2]
          · injection hG with _ h2; injection h2 with h2 _; exact absurd h2.symm hge
        exact ⟨0, 0, false, _, H4, A4, L3, rfl, PL.out.1, PL.out.2, v, hl, hk.trans (EntK.rows hB), hrr, (fun e => by cases e), fun _ => Z4.out.out, Z4.out.u⟩
  · have t1 : decide (0 ≤ c) = true := decide_eq_true (by omega)
    go_wp2_with fail
    refine (ox_local Z1.out.z (by unfold I64B; omega)).mono ?_; rintro e w2 ⟨x, er, H1, L1, rfl, l1, k1, u1, hcase, heq⟩
    rcases hcase with ⟨rfl, hx, y1, hpg⟩ | ⟨he, rfl, hB, y1⟩
    · have Z2 := Lib.hid (Z1.out.next y1 u1)
      have m3 : w2.cell? ⟨bc, 3, none⟩ = some (.int .u64 (us : Int)) := Z2.out.b.cell 3
      have K2 := Lib.hid (And.intro hx (And.intro hpg (And.intro l1 (And.intro k1 heq))))
      clear hx hpg l1 k1 heq y1 u1 m0
      go_wp2_with fail
      go_quiet (fail)
      go_wp2
      go_ret3
      obtain ⟨hx, hpg, l1, k1, heq⟩ := K2.out
      injection heq with e1 e2; injection e2 with e2 e3
      have v := Way.loc (H := H) (A := A) (id := id) (c := c) (sl := sl) (by omega) e2.symm
      rw [← e1, ← e3] at v
      refine ⟨x, us, true, _, H1, A, L1, rfl, PL.out.1, PL.out.2, v, l1, k1, Nat.le_succ _, fun _ => ⟨rfl, hx, Z2.out.drewN.out, ?_⟩, (fun e => by cases e), Z2.out.drewN.u⟩
      obtain ⟨X, hX, o, ho, f1, f2⟩ := hpg
      exact ⟨X, hX, o, ho, f1, by rw [HUS.out]; exact cls_size (Z2.out.z.good.seg X hX).g ho (by omega) hc.2 f1, f2⟩
    · have Z2 := Lib.hid (Z1.out.next y1 u1)
      injection heq with e1 e2; injection e2 with e2 e3
      have KM := Lib.hid (show (0 ≤ c → (localH H c).2.2.1 ≠ 0) ∧ L1.length = L.length ∧ EntK H L H1 L1 U ∧ locH H c = H1 from ⟨fun _ => by rw [← e2]; exact he, l1, k1, by unfold locH; rw [if_pos (by omega)]; exact e3.symm⟩)
      have hd2 : decide (er = 0) = false := decide_eq_false he
      clear y1 u1 l1 k1 e1 e2 e3 hB m0
      go_wp2_with (refine wpList_load_row rfl 86 _ rfl bc rfl _ _ _ _ Z2.out.b Tryz.underlying86 rfl (by kernel_rfl) ?_)
      refine (ox_fresh Z2.out.z (c := c) (sl := (sl : Int)) (sg := 0) (us := us) (by unfold I64B; omega) (by unfold I64B; omega) (by unfold I64B; omega) (by unfold U64B; omega)).mono ?_; rintro e w3 ⟨x3, er3, H3, L3, rfl, l3, k3, u3, hcase3⟩
      rcases hcase3 with ⟨rfl, hb3, hx3, y3, hf3, hpg3⟩ | ⟨he3, rfl, rfl, rfl, y3, hno⟩
      · have Z3 := Lib.hid (Z2.out.next y3 u3)
        have m3 : w3.cell? ⟨bc, 3, none⟩ = some (.int .u64 (us : Int)) := Z3.out.b.cell 3
        have K3 := Lib.hid (And.intro hx3 (And.intro hpg3 (And.intro l3 (And.intro k3 hf3))))
        clear hx3 hpg3 l3 k3 hf3 hb3 y3 u3
        go_wp2_with fail
        go_quiet (fail)
        go_wp2
        go_ret3
        obtain ⟨hx3, hpg3, l3, k3, hf3⟩ := K3.out
        obtain ⟨hm, hl, hk, hloc⟩ := KM.out
        refine ⟨x3, us, true, _, H3, A, L3, rfl, PL.out.1, PL.out.2, .new hm (by rw [hloc]; exact hf3), l3.trans hl, hk.trans k3, Nat.le_succ _, fun _ => ⟨rfl, hx3, Z3.out.drewN.out, ?_⟩, (fun e => by cases e), Z3.out.drewN.u⟩
        obtain ⟨X, hX, o, ho, e1, e2, e3⟩ := hpg3
        exact ⟨X, hX, o, ho, by rw [e1], by rw [e2, HUS.out, Int.toNat_natCast], e3⟩
      · have Z3 := Lib.hid (Z2.out.next y3 u3)
        have hroom : roomH H3 (wdOf c sl) = none := by
          rcases hno with h | h
          · exact absurd h HPL.out
          · rw [Int.toNat_natCast] at h; exact h
        have KR := Lib.hid hroom
        have hd3 : decide (er3 = 0) = false := decide_eq_false he3
        clear y3 u3 l3 k3 hroom hno
        go_wp2_with fail
        refine (ox_grow Z3.out.z (by have := HR.out; omega)).mono ?_; rintro e w4 ⟨rfl, y4, u4⟩
        have hrr := grow_r H3 A id
        obtain ⟨⟨H4, ge, A4⟩, hG⟩ : ∃ G, growH H3 A id = G := ⟨_, rfl⟩
        rw [hG] at y4 hrr
        simp only [hG]
        change OX C K h id p g q H4 A4 L3 U (fun k => S k ∨ k = bc) w4 at y4
        change A4.r ≤ A.r + 1 at hrr
        have Z4 := Lib.hid (Z3.out.next y4 u4)
        have HG := Lib.hid (And.intro hG hrr)
        clear y4 u4 hG hrr
        by_cases hge : ge = 0
        · have hg4 : decide (ge = 0) = true := decide_eq_true hge
          subst hge
          clear hg4
          go_wp2_with (refine wpList_load_row rfl 86 _ rfl bc rfl _ _ _ _ Z4.out.b Tryz.underlying86 rfl (by kernel_rfl) ?_)
          refine (ox_fresh Z4.out.z (c := c) (sl := (sl : Int)) (sg := 0) (us := us) (by unfold I64B; omega) (by unfold I64B; omega) (by unfold I64B; omega) (by unfold U64B; omega)).mono ?_; rintro e w5 ⟨x5, er5, H5, L5, rfl, l5, k5, u5, hcase5⟩
          have hB4 : ∃ pl, H4.B = H3.B ++ [ownedSG id pl] := by
            have h1 := HG.out.1
            unfold growH at h1
            split at h1
            · rename_i hh; injection h1 with _ h2; injection h2 with h2 _; exact absurd h2 hh
            · injection h1 with h2 _; exact ⟨_, by rw [← h2]⟩
          rcases hcase5 with ⟨rfl, hb5, hx5, y5, hf5, hpg5⟩ | ⟨he5, rfl, rfl, rfl, y5, hno5⟩
          · have Z5 := Lib.hid (Z4.out.next y5 u5)
            have m3 : w5.cell? ⟨bc, 3, none⟩ = some (.int .u64 (us : Int)) := Z5.out.b.cell 3
            have K5 := Lib.hid (And.intro hx5 (And.intro hpg5 (And.intro l5 (And.intro k5 hf5))))
            have KB := Lib.hid hB4
            clear hx5 hpg5 l5 k5 hf5 hb5 y5 u5 hB4
            go_wp2_with fail
            go_quiet (fail)
            go_wp2
            go_ret3
            obtain ⟨hx5, hpg5, l5, k5, hf5⟩ := K5.out
            obtain ⟨hm, hl, hk, hloc⟩ := KM.out
            obtain ⟨hG, hrr⟩ := HG.out
            obtain ⟨pl, hB⟩ := KB.out
            have hk4 : EntK H3 L3 H4 L3 U := fun y hy Z hZ z hz hr => ⟨⟨Z, by rw [hB]; exact List.mem_append_left _ hZ, z, hz, rfl, rfl, rfl⟩, fun _ _ _ => rfl⟩
            refine ⟨x5, us, true, _, H5, A4, L5, rfl, PL.out.1, PL.out.2, ?_, l5.trans hl, (hk.trans hk4).trans k5, hrr, fun _ => ⟨rfl, hx5, Z5.out.drewN.out, ?_⟩, (fun e => by cases e), Z5.out.drewN.u⟩
            · have v := Way.more (H := H) (A := A) (id := id) (c := c) (sl := sl) (x := x5) (H' := H5) hm (by rw [hloc]; exact KR.out) (by rw [hloc, hG]) (by rw [hloc, hG]; exact Z4.out.z.good) (by rw [hloc, hG]; exact hf5)
              rw [hloc, hG] at v
              exact v
            · obtain ⟨X, hX, o, ho, e1, e2, e3⟩ := hpg5
              exact ⟨X, hX, o, ho, by rw [e1], by rw [e2, HUS.out, Int.toNat_natCast], e3⟩
          · exfalso
            rcases hno5 with h | h
            · exact HPL.out h
            · obtain ⟨pl, hB⟩ := hB4
              rw [Int.toNat_natCast] at h
              have h' : roomH ⟨H3.B ++ [ownedSG id pl], H5.Q⟩ (wdOf c sl) = none := by rw [← hB]; exact h
              exact room_new HW.out.1 HW.out.2 h'
        · have hg4 : decide (ge = 0) = false := decide_eq_false hge
          go_wp2_with fail
          go_ret3
          obtain ⟨hm, hl, hk, hloc⟩ := KM.out
          obtain ⟨hG, hrr⟩ := HG.out
          have v := Way.full (H := H) (A := A) (id := id) (c := c) (sl := sl) hm (by rw [hloc]; exact KR.out) (by rw [hloc, hG]; exact hge)
          rw [hloc, hG] at v
          have hB : H4.B = H3.B := by
            unfold growH at hG
            split at hG
            · injection hG with h2 _; rw [← h2]
            · injection hG with _ h2; injection h2 with h2 _; exact absurd h2.symm hge
          exact ⟨0, 0, false, _, H4, A4, L3, rfl, PL.out.1, PL.out.2, v, hl, hk.trans (EntK.rows hB), hrr, (fun e => by cases e), fun _ => Z4.out.out, Z4.out.u⟩
end
end Go.Proofs.YtmjeelnidiijdaaGreatDoor
/- A heap of a law's own beside a slice of the law's own (layer 12). -/
namespace Go.Proofs.YtmjeelnidiijdaaGreatDoor
open Go.RowKit ListMath PageMath GeoMath SegMath ClassMath HeapMath QueueMath ArenaMath
set_option linter.unusedVariables false
section
variable {w0 w w' w2 : World} {C : SgC w0} {K : HpC w0 C} {h id p g q : Nat} {L L' U U' : List Nat} {A A' : St} {H H' : HS} {S : Nat → Prop} {v v2 : Value} {l l2 : List Nat}
/-- All blocks of a slice are the law's own. -/
theorem OX.app (z : OX C K h id p g q H A L U S w) (hS : ∀ k, In v k → S k ∧ w0.heap.size ≤ k) (u : Upd (In v) w w') (h2 : ∀ k, In v2 k → In v k ∨ w.heap.size ≤ k) (hlt : ∀ k, In v2 k → k < w'.heap.size) :
    OX C K h id p g q H A L U (fun k => S k ∨ In v2 k) w' := by
  obtain ⟨⟨O, own, B, hz, h1, h3, h4⟩, h5, h6⟩ := z
  have hb : Below w0.heap.size w w' := u.below (fun k hk => (hS k hk).2) h5.size
  have hz' := hz.upd u fun k hk => ⟨fun e => (h4 k (.inl e)).2 (hS k hk).1, fun e => (h4 k (.inr (by rw [List.append_nil] at e; exact e))).2 (hS k hk).1⟩
  refine ⟨⟨O, own, B, hz', h1, h3, fun k hk => ⟨(h4 k hk).1, fun e => ?_⟩⟩, h5.trans hb, fun k hk => ?_⟩
  · rcases e with e | e
    · exact (h4 k hk).2 e
    · rcases h2 k e with e | e
      · exact (h4 k hk).2 (hS k e).1
      · have := HO.lt hz hk; omega
  · exact hk.elim (fun e => Nat.lt_of_lt_of_le (h6 k e) hb.size) (hlt k)
/-- A heap of the law's own, beside a slice of the law's own. -/
structure OM (C : SgC w0) (K : HpC w0 C) (h id p g q : Nat) (H : HS) (A : St) (L U : List Nat) (v : Value) (l : List Nat) (w : World) : Prop where
  z : OX C K h id p g q H A L U (In v) w
  vec : Vec Elem.u64s w v l
  lo : ∀ k, In v k → w0.heap.size ≤ k
theorem OM.slice (z : OM C K h id p g q H A L U v l w) : ∃ a cap, v = .slice a l.length cap ∧ l.length ≤ cap ∧ cap ≤ 9223372036854775807 := z.vec.slice'
theorem OM.grew (z : OM C K h id p g q H A L U v l w) (hb : Below w.heap.size w w') : OM C K h id p g q H A L U v l w' := ⟨z.z.grew hb, z.vec.upd (updFalse_of hb) fun _ _ x => x, z.lo⟩
theorem OM.drew (z : OM C K h id p g q H A L U v l w) : OM C K h id p g q H A L U v l w.drew := z.grew (Below.refl _ _).drew
theorem OM.alloc (z : OM C K h id p g q H A L U v l w) (o : Obj) : OM C K h id p g q H A L U v l (w.alloc o) := z.grew ((Below.refl _ _).alloc (Nat.le_refl _) o)
/-- Behind a call on the heap. -/
theorem OM.next (z : OM C K h id p g q H A L U v l w) (y : OX C K h id p g q H' A' L' U' (In v) w') (u : Still (In v) w w') : OM C K h id p g q H' A' L' U' v l w' := ⟨y, z.vec.upd u fun k hk e => e hk, z.lo⟩
/-- Behind an append. -/
theorem OM.app (z : OM C K h id p g q H A L U v l w) (hv : Vec Elem.u64s w' v2 l2) (u : Upd (In v) w w') (h2 : ∀ k, In v2 k → In v k ∨ w.heap.size ≤ k) : OM C K h id p g q H A L U v2 l2 w' :=
  ⟨(z.z.app (fun k hk => ⟨hk, z.lo k hk⟩) u h2 fun k hk => hv.lt hk).forget fun k hk => .inr hk, hv, fun k hk => (h2 k hk).elim (z.lo k) fun e => Nat.le_trans z.z.below.size e⟩
theorem OM.cell {b o n cap j x : Nat} (z : OM C K h id p g q H A L U (.slice (some ⟨b, o, none⟩) n cap) l w) (hx : l[j]? = some x) : w.cell? ⟨b, o + j, none⟩ = some (.int .u64 (x : Int)) := by
  obtain ⟨b', o', e, hc⟩ := z.vec.seq.elem hx
  injection e with e
  injection e with e1 e2 _
  subst e1 e2
  have := hc 0 (.int .u64 (x : Int)) rfl
  simpa [Elem.u64s] using this
end
end Go.Proofs.YtmjeelnidiijdaaGreatDoor
