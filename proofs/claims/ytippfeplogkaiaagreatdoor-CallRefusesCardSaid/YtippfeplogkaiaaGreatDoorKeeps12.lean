/- Layer 12: how many pages there are. -/
import Derived.Test.YtippfeplogkaiaaGreatDoorUses12
namespace Go.Proofs.YtippfeplogkaiaaGreatDoor.HeapMath
open ListMath GeoMath PageMath ClassMath SegMath QueueMath
open ArenaMath (St reserve release)
set_option linter.unusedVariables false
theorem ints_bound: ∀(n:Nat) {l:List Int},l.Nodup→(∀x∈l,0≤x∧x<(n:Int))→l.length≤n
  | 0,l,_,hb=>by
    cases l with
    |nil=>exact Nat.le_refl _
    |cons x t=>have:=hb x (List.mem_cons_self ..);omega
  | n + 1,l,hn,hb=>by
    by_cases h:(n:Int)∈l
    · have h1:=out_length hn h
      have h2:=ints_bound n (l:=out l (n:Int)) (out_nodup hn _) fun x hx=>by
        obtain ⟨h3,h4⟩:=mem_out.1 hx
        have:=hb x h3
        omega
      omega
    · have:=ints_bound n hn fun x hx=>by
        have h1:=hb x hx
        have h2:x≠(n:Int):=fun e=>h (e▸hx)
        omega
      omega
theorem q_len {H:HS} (g:GoodH H) (i:Nat):(H.Q i).all.length≤1024:=ints_bound 1024 (g.q i).nd fun x hx=>by
  obtain ⟨X,hX,o,ho,_,e⟩:=(g.mem i x).1 hx
  have:=key_le (g.seg X hX) ho
  rw [e];omega
end Go.Proofs.YtippfeplogkaiaaGreatDoor.HeapMath
