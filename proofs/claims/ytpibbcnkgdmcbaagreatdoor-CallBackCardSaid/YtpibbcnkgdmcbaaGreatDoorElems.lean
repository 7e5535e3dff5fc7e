/- Elements of slices (uint64, runs), and small facts on worlds that each layer wants. Over whatever program with uint64. -/
import Derived.Test.YtpibbcnkgdmcbaaGreatDoorRecs12
import Derived.Test.YtpibbcnkgdmcbaaGreatDoorRows
import Derived.Lib.Hide
import Derived.WalkSpells
import Derived.WalkLawsBesides
import Derived.Outline
import Derived.Deep.Draws
set_option linter.unusedVariables false
namespace Go.Proofs.YtpibbcnkgdmcbaaGreatDoor
open Go.RowKit
abbrev bM (n:Nat):Prop:=n≤18446744073709551615
theorem ak {w w':World} (h:Below w.heap.size w w'):aH (fun _=>False) w w':=⟨h.os,h.tape,h.output,h.size,fun k hk _=>h.block k hk⟩
theorem aV.grew {w w':World} {g:Nat} {t:TypeId} {cs:Array Value} (h:aV w g t cs) (hb:Below w.heap.size w w'):aV w' g t cs:=h.upd (ak hb) id
theorem u64_in (n:Int) (h:0≤n∧n≤18446744073709551615):IntKind.u64.wrap n=n:=by
 simp [IntKind.wrap,IntKind.bits,IntKind.signed];omega
theorem ah {B:Nat} {a w w1:World} (h:Below B a w) (hB:B≤w.heap.size) (k:Below w.heap.size w w1):Below B a w1:=h.trans (k.mono hB)
theorem below_drewN {B:Nat} {a w:World} (h:Below B a w) (n:Nat):Below B a (w.drewN n):=⟨h.os,h.tape,h.output,h.size,h.block⟩
theorem WH {a c:Int} (h1:a=c):Ending.returned (.int .u64 a)= .returned (.int .u64 c):=by rw [h1]
theorem WG {a b c d:Int} (h1:a=c) (h2:b=d):Ending.returned (.tuple #[.int .u64 a, .int .i64 b])= .returned (.tuple #[.int .u64 c, .int .i64 d]):=by rw [h1,h2]
def uW (w0:World) (f:Nat) (args:Array Value) (v:Value):Prop:= ∀w,Below w0.heap.size w0 w→Calls Tryz.prog f args w fun e w'=>e= .returned v∧Below w.heap.size w w'
theorem uW.up {w0 w:World} {f:Nat} {args:Array Value} {v:Value} (h:uW w0 f args v) (hb:Below w0.heap.size w0 w):uW w f args v:=fun w' hw=>h w' (ah hb hb.size hw)
def Elem.jl:Elem Nat:=⟨1,fun n=> [.int .u64 (n:Int)],fun _=>rfl,by intro x u h;rw [List.mem_singleton.1 h];rfl,by decide⟩
theorem nu {b o n c k:Nat} (h:In (.slice (some ⟨b,o,none⟩) n c) k):b=k:=by injection h
theorem tX (w:World) (t:TypeId) (x g:Nat) (hg:g=w.heap.size):Seq Elem.jl (w.alloc (.cells #[.int .u64 (x:Int)] t)) (.slice (some ⟨g,0,none⟩) 1 1) [x]:=by
 subst hg;exact Seq.new w t [x] 1
theorem Vec.slice' {α:Type} {E:Elem α} {w:World} {v:Value} {l:List α} (h:Vec E w v l): ∃a cap,v= .slice a l.length cap∧l.length≤cap∧cap≤9223372036854775807:=by
 rcases h with ⟨rfl,rfl⟩|⟨g,off,cap,rfl,_,h1,h2,_⟩
 · exact ⟨none,0,rfl,by simp,by omega⟩
 · exact ⟨_,cap,rfl,h1,by simp only [maxLen] at h2;omega⟩
theorem KD {B:Nat} {a w1 w2:World} {v1:Value} (hb:Below B a w1) (hB:B≤w1.heap.size) (hin: ∀k,In v1 k→B≤k) (u:aH (In v1) w1 w2):Below B a w2:=hb.trans (u.below hin hB)
theorem Ul:(Tryz.prog.info? 22).map (fun i=>(i.zero,i.size,i.bytes))=some (some (.int .u64 0),1,8):=by kernel_rfl
end Go.Proofs.YtpibbcnkgdmcbaaGreatDoor
