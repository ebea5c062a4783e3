import Derived.Test.YtmmpoppgabadmaaGreatG37
set_option linter.unusedVariables false
set_option linter.unusedSimpArgs false
set_option maxRecDepth 100000
set_option maxHeartbeats 16000000
namespace Go.Proofs.YtmmpoppgabadmaaGreat
open Go.RowKit Go.Maps
theorem oth_mem (id:Int)(y:Int):∀ k:Nat,y∈oth id k↔(1<=y/\y<=k/\y≠id)
 | 0=>by
  simp only [oth,List.not_mem_nil,false_iff];omega
 | k+1=>by
  rw [oth];split
  ·rename_i h
   rw [oth_mem id y k]
   push_cast
   omega
  ·rename_i h
   rw [List.mem_append,oth_mem id y k,List.mem_singleton]
   push_cast
   omega
theorem Z2i (id:Int):∀ k:Nat,(oth id k).Nodup
 | 0=>.nil
 | k+1=>by
  rw [oth];split
  ·exact Z2i id k
  ·refine List.nodup_append.2 ⟨Z2i id k,by simp,fun a ha c hc=>?_⟩
   rw [List.mem_singleton] at hc;have:=(oth_mem id a k).1 ha;omega
theorem infoPg:(Tryz.prog.info? 124).map (·.size)=some 4:=by kernel_rfl
end Go.Proofs.YtmmpoppgabadmaaGreat
