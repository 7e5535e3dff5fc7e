/- Queues (layer 11): two rows of numbers, each at most once. -/
import Derived.Lib.Hide
namespace Go.Proofs.YtippfeplogkaiaaGreatDoor.QueueMath
set_option linter.unusedVariables false
structure QR where
  R:List Int
  F:List Int
deriving DecidableEq
def QR.all (S:QR):List Int:=S.R++S.F
def q0:QR:=⟨[], []⟩
def out (l:List Int) (x:Int):List Int:=l.filter fun y=>decide (y≠x)
structure GoodQ (S:QR):Prop where
  nd:S.all.Nodup
def pushE (S:QR):List Int→QR×Int
  | []=>(S,0)
  |x::t=>if x∈S.all then (S,6) else pushE ⟨S.R++ [x],S.F⟩ t
def removeE (S:QR):List Int→QR×Int
  | []=>(S,0)
  |x::t=>if x∈S.all then removeE ⟨out S.R x,out S.F x⟩ t else (S,5)
def fillE (S:QR) (x:Int):QR×Int:=if x∈S.R then (⟨out S.R x,S.F++ [x]⟩,0) else (S,5)
def wakeE (S:QR) (x:Int):QR×Int:=if x∈S.F then (⟨S.R++ [x],out S.F x⟩,0) else (S,5)
theorem mem_out {l:List Int} {x y:Int}:y∈out l x↔y∈l∧y≠x:=by unfold out;rw [List.mem_filter];simp
theorem out_len (l:List Int) (x:Int):(out l x).length≤l.length:=List.length_filter_le _ _
theorem out_self {l:List Int} {x:Int} (h:x∉l):out l x=l:=List.filter_eq_self.2 fun y hy=>by
  simp only [ne_eq,decide_eq_true_eq];intro e;subst e;exact h hy
theorem out_nodup {l:List Int} (h:l.Nodup) (x:Int):(out l x).Nodup:=h.filter _
theorem all_nodup {S:QR}:S.all.Nodup↔S.R.Nodup∧S.F.Nodup∧ ∀x∈S.R,x∉S.F:=by
  unfold QR.all
  rw [List.nodup_append]
  constructor
  · rintro ⟨h1,h2,h3⟩;exact ⟨h1,h2,fun x hx hf=>h3 x hx x hf rfl⟩
  · rintro ⟨h1,h2,h3⟩;exact ⟨h1,h2,fun x hx y hy e=>h3 x hx (by rw [e];exact hy)⟩
theorem mem_all {S:QR} {x:Int}:x∈S.all↔x∈S.R∨x∈S.F:=List.mem_append
theorem one_more {l:List Int} {x:Int} (h:l.Nodup) (hx:x∉l):(l++ [x]).Nodup:=by
  rw [List.nodup_append]
  exact ⟨h,by simp,fun y hy z hz e=>by rw [List.mem_singleton.1 hz] at e;subst e;exact hx hy⟩
theorem out_length {l:List Int} {x:Int} (h:l.Nodup) (hx:x∈l):(out l x).length+1=l.length:=by
  induction l with
  |nil=>cases hx
  | cons y t ih=>
    rw [List.nodup_cons] at h
    unfold out
    by_cases e:y=x
    · subst e
      rw [List.filter_cons_of_neg (by simp)]
      have:t.filter (fun z=>decide (z≠y))=t:=out_self h.1
      rw [this];rfl
    · rw [List.filter_cons_of_pos (by simp [e])]
      have hx2:x∈t:=by rcases List.mem_cons.1 hx with h|h;exact absurd h.symm e;exact h
      have:=ih h.2 hx2
      unfold out at this
      rw [List.length_cons,List.length_cons];omega
theorem GoodQ.zero:GoodQ q0:=⟨List.nodup_nil⟩
section
variable {S:QR}
theorem GoodQ.push1 (g:GoodQ S) {x:Int} (h:x∉S.all):GoodQ ⟨S.R++ [x],S.F⟩:=by
  obtain ⟨h1,h2,h3⟩:=all_nodup.1 g.nd
  rw [mem_all,not_or] at h
  exact ⟨all_nodup.2 ⟨one_more h1 h.1,h2,fun y hy=>by
    rcases List.mem_append.1 hy with hy|hy
    · exact h3 y hy
    · rw [List.mem_singleton.1 hy];exact h.2⟩⟩
theorem GoodQ.push (g:GoodQ S) (l:List Int):GoodQ (pushE S l).1:=by
  induction l generalizing S with
  |nil=>exact g
  | cons x t ih=>
    unfold pushE
    split
    · exact g
    · rename_i h;exact ih (g.push1 h)
theorem GoodQ.remove1 (g:GoodQ S) (x:Int):GoodQ ⟨out S.R x,out S.F x⟩:=by
  obtain ⟨h1,h2,h3⟩:=all_nodup.1 g.nd
  exact ⟨all_nodup.2 ⟨out_nodup h1 x,out_nodup h2 x,fun y hy hf=>h3 y (mem_out.1 hy).1 (mem_out.1 hf).1⟩⟩
theorem GoodQ.remove (g:GoodQ S) (l:List Int):GoodQ (removeE S l).1:=by
  induction l generalizing S with
  |nil=>exact g
  | cons x t ih=>
    unfold removeE
    split
    · exact ih (g.remove1 x)
    · exact g
theorem GoodQ.fill (g:GoodQ S) (x:Int):GoodQ (fillE S x).1:=by
  unfold fillE
  split
  · rename_i h
    obtain ⟨h1,h2,h3⟩:=all_nodup.1 g.nd
    exact ⟨all_nodup.2 ⟨out_nodup h1 x,one_more h2 (h3 x h),fun y hy hf=>by
      obtain ⟨hy1,hy2⟩:=mem_out.1 hy
      rcases List.mem_append.1 hf with hf|hf
      · exact h3 y hy1 hf
      · exact hy2 (List.mem_singleton.1 hf)⟩⟩
  · exact g
theorem GoodQ.wake (g:GoodQ S) (x:Int):GoodQ (wakeE S x).1:=by
  unfold wakeE
  split
  · rename_i h
    obtain ⟨h1,h2,h3⟩:=all_nodup.1 g.nd
    exact ⟨all_nodup.2 ⟨one_more h1 (fun hr=>h3 x hr h),out_nodup h2 x,fun y hy hf=>by
      obtain ⟨hf1,hf2⟩:=mem_out.1 hf
      rcases List.mem_append.1 hy with hy|hy
      · exact h3 y hy hf1
      · exact hf2 (List.mem_singleton.1 hy)⟩⟩
  · exact g
theorem push_len (S:QR) (l:List Int):(pushE S l).1.all.length≤S.all.length+l.length:=by
  induction l generalizing S with
  |nil=>exact Nat.le_refl _
  | cons x t ih=>
    unfold pushE
    split
    · exact Nat.le_add_right _ _
    · have:=ih ⟨S.R++ [x],S.F⟩
      simp only [QR.all,List.length_append,List.length_cons,List.length_nil] at this⊢
      omega
theorem remove_len (S:QR) (l:List Int):(removeE S l).1.all.length≤S.all.length:=by
  induction l generalizing S with
  |nil=>exact Nat.le_refl _
  | cons x t ih=>
    unfold removeE
    split
    · have:=ih ⟨out S.R x,out S.F x⟩
      have h1:=out_len S.R x;have h2:=out_len S.F x
      simp only [QR.all,List.length_append] at this⊢
      omega
    · exact Nat.le_refl _
theorem rows_in (g:GoodQ S) {x:Int} (h:x∈S.all): ∃(S1 S2 S3:QR) (e:Int),fillE S x=(S1,e)∧(e=0∨e=5)∧wakeE S1 x=(S2,0)∧fillE S2 x=(S3,0):=by
  by_cases hr:x∈S.R
  · refine ⟨_,_,_,0,if_pos hr, .inl rfl,if_pos (show x∈S.F++ [x] by simp),if_pos (show x∈out S.R x++ [x] by simp)⟩
  · have hf:x∈S.F:=(mem_all.1 h).resolve_left hr
    exact ⟨S,_,_,5,if_neg hr, .inr rfl,if_pos hf,if_pos (show x∈S.R++ [x] by simp)⟩
theorem gone {x:Int}:x∉QR.all ⟨out S.R x,out S.F x⟩:=fun h=>by
  rcases mem_all.1 h with h|h<;>exact (mem_out.1 h).2 rfl
theorem push_there {x:Int} (h:x∈S.all):pushE S [x]=(S,6):=if_pos h
theorem push_new {x:Int} (h:x∉S.all):pushE S [x]=(⟨S.R++ [x],S.F⟩,0):=if_neg h
theorem remove_there {x:Int} (h:x∈S.all):removeE S [x]=(⟨out S.R x,out S.F x⟩,0):=if_pos h
theorem remove_none {x:Int} (h:x∉S.all):removeE S [x]=(S,5):=if_neg h
theorem fill_yes {x:Int} (h:x∈S.R):fillE S x=(⟨out S.R x,S.F++ [x]⟩,0):=if_pos h
theorem wake_yes {x:Int} (h:x∈S.F):wakeE S x=(⟨S.R++ [x],out S.F x⟩,0):=if_pos h
theorem fill_no {x:Int} (h:x∉S.R):fillE S x=(S,5):=if_neg h
end
end Go.Proofs.YtippfeplogkaiaaGreatDoor.QueueMath
