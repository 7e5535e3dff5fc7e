/- Layer 12: how many pages there are. -/
import Derived.Test.YtpibbcnkgdmcbaaGreatDoorUses12
set_option linter.unusedVariables false
namespace Go.Proofs.YtpibbcnkgdmcbaaGreatDoor.aD
open aC aG aF au aI aB
open aA (St reserve release)
theorem m_: ∀(n:Nat) {l:List Int},l.Nodup→(∀x∈l,0≤x∧x<(n:Int))→l.length≤n
 |0,l,_,hb=>by
  cases l with
  |nil=>exact Nat.le_refl _
  |cons x t=>have:=hb x (List.mem_cons_self ..);omega
 |n+1,l,hn,hb=>by
  by_cases h:(n:Int)∈l
  · have h1:=GN hn h
    have h2:=m_ n (l:=out l (n:Int)) (lV hn _) fun x hx=>by
     obtain ⟨h3,h4⟩:=gH.1 hx;have:=hb x h3;omega
    omega
  · have:=m_ n hn fun x hx=>by
     have h1:=hb x hx;have h2:x≠(n:Int):=fun e=>h (e▸hx);omega
    omega
theorem q_len {H:HS} (g:aO H) (i:Nat):(H.Q i).all.length≤1024:=m_ 1024 (g.q i).nd fun x hx=>by
 obtain ⟨X,hX,o,ho,_,e⟩:=(g.mem i x).1 hx;have:=oK (g.seg X hX) ho;rw [e];omega
end Go.Proofs.YtpibbcnkgdmcbaaGreatDoor.aD
