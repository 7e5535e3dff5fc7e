/- Classes and plans, as numbers. -/
namespace Go.Proofs.YtippfeplogkaiaaGreatDoor.ClassMath
set_option linter.unusedVariables false
def sizes:List Nat:= [16,32,48,64,96,128,192,256,384,512,768,1024]
def sizeAt (c:Nat):Nat:=sizes.getD c 0
def slicesAt (c:Nat):Nat:=if sizeAt c≤256 then 1 else if sizeAt c≤512 then 2 else 4
def blocksAt (c:Nat):Nat:=1024*slicesAt c/sizeAt c
theorem below12 {P:Nat→Prop} (h: ∀c:Fin 12,P c.1): ∀c,c<12→P c:=fun c hc=>h ⟨c,hc⟩
theorem size_bounds {c:Nat} (h:c<12):16≤sizeAt c∧sizeAt c≤1024:=below12 (P:=fun c=>16≤sizeAt c∧sizeAt c≤1024) (by decide) c h
theorem slices_bounds {c:Nat} (h:c<12):1≤slicesAt c∧slicesAt c≤4:=below12 (P:=fun c=>1≤slicesAt c∧slicesAt c≤4) (by decide) c h
theorem blocks_fit {c:Nat} (h:c<12):1≤blocksAt c∧blocksAt c≤64∧blocksAt c*sizeAt c≤1024*slicesAt c∧1024*slicesAt c<(blocksAt c+1)*sizeAt c:=
  below12 (P:=fun c=>1≤blocksAt c∧blocksAt c≤64∧blocksAt c*sizeAt c≤1024*slicesAt c∧1024*slicesAt c<(blocksAt c+1)*sizeAt c) (by decide) c h
theorem size_16 {c:Nat} (h:c<12):sizeAt c%16=0:=below12 (P:=fun c=>sizeAt c%16=0) (by decide) c h
theorem size_mono {c d:Nat} (h:c<d) (hd:d<12):sizeAt c<sizeAt d:=by
  have: ∀d:Fin 12,∀c:Fin 12,c.1<d.1→sizeAt c.1<sizeAt d.1:=by decide
  exact this ⟨d,hd⟩ ⟨c,by omega⟩ h
def firstC (f:Nat→Bool):Option Nat:=(List.range 12).find? fun c=>f (sizeAt c)
theorem firstC_some {f:Nat→Bool} {c:Nat} (h:firstC f=some c):c<12∧f (sizeAt c)=true∧ ∀d,d<c→f (sizeAt d)=false:=by
  unfold firstC at h
  obtain ⟨h1,as,bs,h2,h3⟩:=List.find?_eq_some_iff_append.1 h
  have hlen:as.length=c∧c<12:=by
    have hl:as.length<(List.range 12).length:=by rw [h2];simp
    have h4:(List.range 12)[as.length]? =some c:=by rw [h2,List.getElem?_append_right (Nat.le_refl _)];simp
    rw [List.length_range] at hl
    rw [List.getElem?_range hl] at h4
    injection h4 with h4
    exact ⟨h4,by omega⟩
  refine ⟨hlen.2,h1,fun d hd=> ?_⟩
  have h4:(List.range 12)[d]? =as[d]? :=by rw [h2,List.getElem?_append_left (by omega)]
  rw [List.getElem?_range (by omega)] at h4
  simpa using h3 d (List.mem_of_getElem? h4.symm)
theorem firstC_none {f:Nat→Bool} (h:firstC f=none) (c:Nat) (hc:c<12):f (sizeAt c)=false:=by
  simpa using List.find?_eq_none.1 h c (List.mem_range.2 hc)
theorem firstC_of {f:Nat→Bool} {c:Nat} (hc:c<12) (h1:f (sizeAt c)=true) (h2: ∀d,d<c→f (sizeAt d)=false):firstC f=some c:=by
  cases h:firstC f with
  |none=>rw [firstC_none h c hc] at h1;cases h1
  | some d=>
    obtain ⟨g1,g2,g3⟩:=firstC_some h
    rcases Nat.lt_trichotomy c d with x|x|x
    · rw [g3 c x] at h1;cases h1
    · rw [x]
    · rw [h2 d x] at g2;cases g2
theorem firstC_no {f:Nat→Bool} (h: ∀c,c<12→f (sizeAt c)=false):firstC f=none:=by
  cases hs:firstC f with
  |none=>rfl
  |some c=>obtain ⟨g1,g2,_⟩:=firstC_some hs;rw [h c g1] at g2;cases g2
def ofN (n:Nat):Option Nat:=firstC fun s=>decide (n≤s)
def fitN (n a:Nat):Option Nat:=firstC fun s=>decide (n≤s∧s%a=0)
def isAl (a:Nat):Bool:= [1,2,4,8,16,32,64,128,256,512,1024].contains a
structure Pl where
  c:Int
  sl:Nat
  sg:Nat
  us:Nat
def Pl.none:Pl:=⟨0,0,0,0⟩
def up (n u:Nat):Nat:=(n+u-1)/u
theorem up_fit {n u:Nat} (hu:0<u):n≤up n u*u∧(1≤n→up n u*u<n+u):=by
  have h:=Nat.div_add_mod (n+u-1) u
  have h2:=Nat.mod_lt (n+u-1) hu
  unfold up
  rw [Nat.mul_comm] at h
  exact ⟨by omega,fun h1=>by omega⟩
theorem up_pos {n u:Nat} (hu:0<u) (h:1≤n):1≤up n u:=by
  rcases Nat.eq_zero_or_pos (up n u) with h0|h0
  · have:=(up_fit (n:=n) hu).1;rw [h0] at this;omega
  · exact h0
def forN (n a:Nat):Pl×Int:=
  if isAl a=true∧n≤1048576 then
    match fitN (max n 1) a with
    |some c=>(⟨(c:Int),slicesAt c,0,sizeAt c⟩,0)
    | .none=>if max n 1≤15360 then (⟨-1,up (max n 1) 1024,0,up (max n 1) 1024*1024⟩,0) else (⟨-1,0,up (max n 1) 16384,up (max n 1) 16384*16384⟩,0)
  else (Pl.none,2)
end Go.Proofs.YtippfeplogkaiaaGreatDoor.ClassMath
