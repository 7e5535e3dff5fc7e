/- Rows of ints that are written place by place (for QueueOwn). -/
import Derived.Test.YtpibbcnkgdmcbaaGreatDoorQueueCl
import Derived.Laws.World
set_option linter.unusedVariables false
namespace Go.Proofs.YtpibbcnkgdmcbaaGreatDoor
open Go.RowKit aB
theorem Fy (l:List Int):Elem.ints.all l=l.map (fun n:Int=>Value.int .i64 n):=by
 induction l with
 |nil=>rfl
 |cons x t ih=>rw [Elem.all_cons,ih];rfl
theorem JY:(Tryz.prog.info? 3).map (fun i=>(i.zero,i.size,i.bytes))=some (some (.int .i64 0),1,8):=by kernel_rfl
theorem Sd {w:World} {g off n cap:Nat} {l:List Int} (h:Vec Elem.ints w (.slice (some ⟨g,off,none⟩) n cap) l) {t:Nat} (ht:t<l.length) (z:Int):Vec Elem.ints (w.setCell ⟨g,off+t,none⟩ (.int .i64 z)) (.slice (some ⟨g,off,none⟩) n cap) (l.set t z):=by
 rcases h with ⟨e,_⟩|⟨g',off',cap',e,hg,hn,hm,hc,hsp⟩
 · cases e
 · injection e with e1 e2 e3
   injection e1 with e1
   injection e1 with eg eo _
   subst eg eo e2 e3;have hs:=hsp t (by simp only [Elem.ints];omega);have far: ∀j,¬t=j→(w.setCell ⟨g,off+t,none⟩ (.int .i64 z)).cell? ⟨g,off+j,none⟩=w.cell? ⟨g,off+j,none⟩:=fun j e=>World.cell?_setCell_other _ _ _ _ (fun h=>e (by injection h with _ h _;omega));refine .inr ⟨g,off,cap,by rw [List.length_set],by rw [World.size_setCell];exact hg,by rw [List.length_set];exact hn,hm,fun j u hj=> ?_,fun j hj=> ?_⟩
   · rw [Fy,List.getElem?_map,List.getElem?_set] at hj
     by_cases e:t=j
     · subst e
       rw [if_pos rfl,if_pos ht] at hj;rw [←Option.some.inj hj];exact World.cell?_setCell_same' _ _ _ hs.1
     · rw [if_neg e] at hj
       rw [far j e];exact hc j u (by rw [Fy,List.getElem?_map];exact hj)
   · refine ⟨?_,by rw [World.frozen?_setCell];exact (hsp j hj).2⟩
     by_cases e:t=j
     · subst e
       rw [World.cell?_setCell_same' _ _ _ hs.1];rfl
     · rw [far j e]
       exact (hsp j hj).1
def Z8 (w0:World) (v:Value) (n:Nat) (i:Value) (wr:World):Prop:=
 ∃(t:Nat) (l:List Int),t≤n∧i= .int .i64 (t:Int)∧Vec Elem.ints wr v l∧aH (In v) w0 wr
theorem Z8.next {w0 wr:World} {g off n cap t:Nat} {l:List Int} (h:Vec Elem.ints wr (.slice (some ⟨g,off,none⟩) n cap) l) (u:aH (In (.slice (some ⟨g,off,none⟩) n cap)) w0 wr) (ht:t<n) (z:Int):Z8 w0 (.slice (some ⟨g,off,none⟩) n cap) n (.int .i64 ((t:Int)+1)) (wr.setCell ⟨g,off+t,none⟩ (.int .i64 z)):=
 ⟨t+1,l.set t z,by omega,by go_num,Sd h (by rw [←h.elem];exact ht) z,u.setCell (p:=⟨g,off+t,none⟩) (.inl rfl) _⟩
theorem Vec.arr {w:World} {v:Value} {l:List Int} (h:Vec Elem.ints w v l) (hw: ∀x∈l,gy x):iF w v l:=⟨h.seq,by obtain ⟨a,c,e,h1,h2⟩:=h.slice';exact ⟨a,_,c,e,h1,h2⟩,hw⟩
end Go.Proofs.YtpibbcnkgdmcbaaGreatDoor
