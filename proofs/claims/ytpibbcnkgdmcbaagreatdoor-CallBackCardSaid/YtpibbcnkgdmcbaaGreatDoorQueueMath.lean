/- Queues (layer 11): two rows of numbers, each at most once. -/
import Derived.Lib.Hide
set_option linter.unusedVariables false
namespace Go.Proofs.YtpibbcnkgdmcbaaGreatDoor.aB
structure QR where
 R:List Int
 F:List Int
deriving DecidableEq
def QR.all (S:QR):List Int:=S.R++S.F
def q0:QR:=⟨[], []⟩
def out (l:List Int) (x:Int):List Int:=l.filter fun y=>decide (y≠x)
structure bZ (S:QR):Prop where
 nd:S.all.Nodup
def bK (S:QR):List Int→QR×Int
 | []=>(S,0)
 |x::t=>if x∈S.all then (S,6) else bK ⟨S.R++ [x],S.F⟩ t
def aX (S:QR):List Int→QR×Int
 | []=>(S,0)
 |x::t=>if x∈S.all then aX ⟨out S.R x,out S.F x⟩ t else (S,5)
def eO (S:QR) (x:Int):QR×Int:=if x∈S.R then (⟨out S.R x,S.F++ [x]⟩,0) else (S,5)
def dK (S:QR) (x:Int):QR×Int:=if x∈S.F then (⟨S.R++ [x],out S.F x⟩,0) else (S,5)
theorem gH {l:List Int} {x y:Int}:y∈out l x↔y∈l∧y≠x:=by unfold out;rw [List.mem_filter];simp
theorem pO (l:List Int) (x:Int):(out l x).length≤l.length:=List.length_filter_le _ _
theorem j_ {l:List Int} {x:Int} (h:x∉l):out l x=l:=List.filter_eq_self.2 fun y hy=>by
 simp only [ne_eq,decide_eq_true_eq];intro e;subst e;exact h hy
theorem lV {l:List Int} (h:l.Nodup) (x:Int):(out l x).Nodup:=h.filter _
theorem iO {S:QR}:S.all.Nodup↔S.R.Nodup∧S.F.Nodup∧ ∀x∈S.R,x∉S.F:=by
 unfold QR.all;rw [List.nodup_append];constructor
 · rintro ⟨h1,h2,h3⟩;exact ⟨h1,h2,fun x hx hf=>h3 x hx x hf rfl⟩
 · rintro ⟨h1,h2,h3⟩;exact ⟨h1,h2,fun x hx y hy e=>h3 x hx (by rw [e];exact hy)⟩
theorem dx {S:QR} {x:Int}:x∈S.all↔x∈S.R∨x∈S.F:=List.mem_append
theorem xX {l:List Int} {x:Int} (h:l.Nodup) (hx:x∉l):(l++ [x]).Nodup:=by
 rw [List.nodup_append];exact ⟨h,by simp,fun y hy z hz e=>by rw [List.mem_singleton.1 hz] at e;subst e;exact hx hy⟩
theorem GN {l:List Int} {x:Int} (h:l.Nodup) (hx:x∈l):(out l x).length+1=l.length:=by
 induction l with
 |nil=>cases hx
 |cons y t ih=>
  rw [List.nodup_cons] at h;unfold out;by_cases e:y=x
  · subst e
    rw [List.filter_cons_of_neg (by simp)];have:t.filter (fun z=>decide (z≠y))=t:=j_ h.1;rw [this];rfl
  · rw [List.filter_cons_of_pos (by simp [e])]
    have hx2:x∈t:=by rcases List.mem_cons.1 hx with h|h;exact absurd h.symm e;exact h
    have:=ih h.2 hx2;unfold out at this;rw [List.length_cons,List.length_cons];omega
theorem bZ.zero:bZ q0:=⟨List.nodup_nil⟩
section
variable {S:QR}
theorem bZ.dB (g:bZ S) {x:Int} (h:x∉S.all):bZ ⟨S.R++ [x],S.F⟩:=by
 obtain ⟨h1,h2,h3⟩:=iO.1 g.nd;rw [dx,not_or] at h;exact ⟨iO.2 ⟨xX h1 h.1,h2,fun y hy=>by
  rcases List.mem_append.1 hy with hy|hy
  · exact h3 y hy
  · rw [List.mem_singleton.1 hy];exact h.2⟩⟩
theorem bZ.push (g:bZ S) (l:List Int):bZ (bK S l).1:=by
 induction l generalizing S with
 |nil=>exact g
 |cons x t ih=>
  unfold bK;split
  · exact g
  · rename_i h;exact ih (g.dB h)
theorem bZ.Tw (g:bZ S) (x:Int):bZ ⟨out S.R x,out S.F x⟩:=by
 obtain ⟨h1,h2,h3⟩:=iO.1 g.nd;exact ⟨iO.2 ⟨lV h1 x,lV h2 x,fun y hy hf=>h3 y (gH.1 hy).1 (gH.1 hf).1⟩⟩
theorem bZ.remove (g:bZ S) (l:List Int):bZ (aX S l).1:=by
 induction l generalizing S with
 |nil=>exact g
 |cons x t ih=>
  unfold aX;split
  · exact ih (g.Tw x)
  · exact g
theorem bZ.fill (g:bZ S) (x:Int):bZ (eO S x).1:=by
 unfold eO;split
 · rename_i h
   obtain ⟨h1,h2,h3⟩:=iO.1 g.nd;exact ⟨iO.2 ⟨lV h1 x,xX h2 (h3 x h),fun y hy hf=>by
    obtain ⟨hy1,hy2⟩:=gH.1 hy;rcases List.mem_append.1 hf with hf|hf
    · exact h3 y hy1 hf
    · exact hy2 (List.mem_singleton.1 hf)⟩⟩
 · exact g
theorem bZ.wake (g:bZ S) (x:Int):bZ (dK S x).1:=by
 unfold dK;split
 · rename_i h
   obtain ⟨h1,h2,h3⟩:=iO.1 g.nd;exact ⟨iO.2 ⟨xX h1 (fun hr=>h3 x hr h),lV h2 x,fun y hy hf=>by
    obtain ⟨hf1,hf2⟩:=gH.1 hf;rcases List.mem_append.1 hy with hy|hy
    · exact h3 y hy hf1
    · exact hf2 (List.mem_singleton.1 hy)⟩⟩
 · exact g
theorem Pg (S:QR) (l:List Int):(bK S l).1.all.length≤S.all.length+l.length:=by
 induction l generalizing S with
 |nil=>exact Nat.le_refl _
 |cons x t ih=>
  unfold bK;split
  · exact Nat.le_add_right _ _
  · have:=ih ⟨S.R++ [x],S.F⟩
    simp only [QR.all,List.length_append,List.length_cons,List.length_nil] at this⊢;omega
theorem xO (S:QR) (l:List Int):(aX S l).1.all.length≤S.all.length:=by
 induction l generalizing S with
 |nil=>exact Nat.le_refl _
 |cons x t ih=>
  unfold aX;split
  · have:=ih ⟨out S.R x,out S.F x⟩
    have h1:=pO S.R x;have h2:=pO S.F x;simp only [QR.all,List.length_append] at this⊢;omega
  · exact Nat.le_refl _
theorem rows_in (g:bZ S) {x:Int} (h:x∈S.all): ∃(S1 S2 S3:QR) (e:Int),eO S x=(S1,e)∧(e=0∨e=5)∧dK S1 x=(S2,0)∧eO S2 x=(S3,0):=by
 by_cases hr:x∈S.R
 · refine ⟨_,_,_,0,if_pos hr, .inl rfl,if_pos (show x∈S.F++ [x] by simp),if_pos (show x∈out S.R x++ [x] by simp)⟩
 · have hf:x∈S.F:=(dx.1 h).resolve_left hr
   exact ⟨S,_,_,5,if_neg hr, .inr rfl,if_pos hf,if_pos (show x∈S.R++ [x] by simp)⟩
theorem gone {x:Int}:x∉QR.all ⟨out S.R x,out S.F x⟩:=fun h=>by
 rcases dx.1 h with h|h<;>exact (gH.1 h).2 rfl
theorem gT {x:Int} (h:x∈S.all):bK S [x]=(S,6):=if_pos h
theorem fB {x:Int} (h:x∉S.all):bK S [x]=(⟨S.R++ [x],S.F⟩,0):=if_neg h
theorem dW {x:Int} (h:x∈S.all):aX S [x]=(⟨out S.R x,out S.F x⟩,0):=if_pos h
theorem fO {x:Int} (h:x∉S.all):aX S [x]=(S,5):=if_neg h
theorem sM {x:Int} (h:x∈S.R):eO S x=(⟨out S.R x,S.F++ [x]⟩,0):=if_pos h
theorem rz {x:Int} (h:x∈S.F):dK S x=(⟨S.R++ [x],out S.F x⟩,0):=if_pos h
theorem wU {x:Int} (h:x∉S.R):eO S x=(S,5):=if_neg h
end
end Go.Proofs.YtpibbcnkgdmcbaaGreatDoor.aB
