/- Classes and plans, as numbers. -/
set_option linter.unusedVariables false
namespace Go.Proofs.YtpibbcnkgdmcbaaGreatDoor.au
def sizes:List Nat:= [16,32,48,64,96,128,192,256,384,512,768,1024]
def aK (c:Nat):Nat:=sizes.getD c 0
def aM (c:Nat):Nat:=if aK c≤256 then 1 else if aK c≤512 then 2 else 4
def bE (c:Nat):Nat:=1024*aM c/aK c
theorem kT {P:Nat→Prop} (h: ∀c:Fin 12,P c.1): ∀c,c<12→P c:=fun c hc=>h ⟨c,hc⟩
theorem iK {c:Nat} (h:c<12):16≤aK c∧aK c≤1024:=kT (P:=fun c=>16≤aK c∧aK c≤1024) (by decide) c h
theorem kZ {c:Nat} (h:c<12):1≤aM c∧aM c≤4:=kT (P:=fun c=>1≤aM c∧aM c≤4) (by decide) c h
theorem I6 {c:Nat} (h:c<12):1≤bE c∧bE c≤64∧bE c*aK c≤1024*aM c∧1024*aM c<(bE c+1)*aK c:=
 kT (P:=fun c=>1≤bE c∧bE c≤64∧bE c*aK c≤1024*aM c∧1024*aM c<(bE c+1)*aK c) (by decide) c h
theorem Js {c:Nat} (h:c<12):aK c%16=0:=kT (P:=fun c=>aK c%16=0) (by decide) c h
theorem KZ {c d:Nat} (h:c<d) (hd:d<12):aK c<aK d:=by
 have: ∀d:Fin 12,∀c:Fin 12,c.1<d.1→aK c.1<aK d.1:=by decide
 exact this ⟨d,hd⟩ ⟨c,by omega⟩ h
def nA (f:Nat→Bool):Option Nat:=(List.range 12).find? fun c=>f (aK c)
theorem jH {f:Nat→Bool} {c:Nat} (h:nA f=some c):c<12∧f (aK c)=true∧ ∀d,d<c→f (aK d)=false:=by
 unfold nA at h;obtain ⟨h1,as,bs,h2,h3⟩:=List.find?_eq_some_iff_append.1 h;have hlen:as.length=c∧c<12:=by
  have hl:as.length<(List.range 12).length:=by rw [h2];simp
  have h4:(List.range 12)[as.length]? =some c:=by rw [h2,List.getElem?_append_right (Nat.le_refl _)];simp
  rw [List.length_range] at hl;rw [List.getElem?_range hl] at h4;injection h4 with h4
  exact ⟨h4,by omega⟩
 refine ⟨hlen.2,h1,fun d hd=> ?_⟩;have h4:(List.range 12)[d]? =as[d]? :=by rw [h2,List.getElem?_append_left (by omega)]
 rw [List.getElem?_range (by omega)] at h4
 simpa using h3 d (List.mem_of_getElem? h4.symm)
theorem oV {f:Nat→Bool} (h:nA f=none) (c:Nat) (hc:c<12):f (aK c)=false:=by
 simpa using List.find?_eq_none.1 h c (List.mem_range.2 hc)
theorem uL {f:Nat→Bool} {c:Nat} (hc:c<12) (h1:f (aK c)=true) (h2: ∀d,d<c→f (aK d)=false):nA f=some c:=by
 cases h:nA f with
 |none=>rw [oV h c hc] at h1;cases h1
 |some d=>
  obtain ⟨g1,g2,g3⟩:=jH h;rcases Nat.lt_trichotomy c d with x|x|x
  · rw [g3 c x] at h1;cases h1
  · rw [x]
  · rw [h2 d x] at g2;cases g2
theorem uM {f:Nat→Bool} (h: ∀c,c<12→f (aK c)=false):nA f=none:=by
 cases hs:nA f with
 |none=>rfl
 |some c=>obtain ⟨g1,g2,_⟩:=jH hs;rw [h c g1] at g2;cases g2
def ofN (n:Nat):Option Nat:=nA fun s=>decide (n≤s)
def oU (n a:Nat):Option Nat:=nA fun s=>decide (n≤s∧s%a=0)
def iQ (a:Nat):Bool:= [1,2,4,8,16,32,64,128,256,512,1024].contains a
structure Pl where
 c:Int
 sl:Nat
 sg:Nat
 us:Nat
def Pl.none:Pl:=⟨0,0,0,0⟩
def up (n u:Nat):Nat:=(n+u-1)/u
theorem Wp {n u:Nat} (hu:0<u):n≤up n u*u∧(1≤n→up n u*u<n+u):=by
 have h:=Nat.div_add_mod (n+u-1) u;have h2:=Nat.mod_lt (n+u-1) hu;unfold up;rw [Nat.mul_comm] at h;exact ⟨by omega,fun h1=>by omega⟩
theorem Bl {n u:Nat} (hu:0<u) (h:1≤n):1≤up n u:=by
 rcases Nat.eq_zero_or_pos (up n u) with h0|h0
 · have:=(Wp (n:=n) hu).1;rw [h0] at this;omega
 · exact h0
def dV (n a:Nat):Pl×Int:=
 if iQ a=true∧n≤1048576 then
  match oU (max n 1) a with
  |some c=>(⟨(c:Int),aM c,0,aK c⟩,0)
  | .none=>if max n 1≤15360 then (⟨-1,up (max n 1) 1024,0,up (max n 1) 1024*1024⟩,0) else (⟨-1,0,up (max n 1) 16384,up (max n 1) 16384*16384⟩,0)
 else (Pl.none,2)
end Go.Proofs.YtpibbcnkgdmcbaaGreatDoor.au
