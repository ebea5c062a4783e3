import Derived.Test.YtmmpoppgabadmaaGreatG17
import Derived.Maps.OwnSet
set_option linter.unusedVariables false
set_option linter.unusedSimpArgs false
set_option maxRecDepth 100000
set_option maxHeartbeats 16000000
namespace Go.Proofs.YtmmpoppgabadmaaGreat
open Go.RowKit Go.Maps Go.Sort Go.Shelf
theorem laidSorts (m:Nat):AnyZI.SortsIn Tryz.prog Z46 Fence.wide m:=
 ⟨λblk off cap ss W hH hblk hsz=>callsIn_wide.2 (AnyM.slices_Sort_int laidSort blk off cap ss W hH hblk hsz),
  λp cap W=>callsIn_wide.2 (AnyM.slices_Sort_int_none laidSort p cap W)⟩
theorem keysG_any (mb:Option Nat)(W:World):Calls Tryz.prog 87 #[.map mb] W λe w'=>e=.returned (.func (.func 140) #[] #[.pointer (some ⟨W.heap.size,0,none⟩)])/\w'=W.alloc (.cells #[.map mb] 77):=
 (callsIn_wide (n:=5)).1 (AnyZI.keys_in laidKeys Fence.wide 5 trivial rfl mb W)
theorem sortedG_any {H:Type}(b nn:Nat)(D0:DataW H)(R:Value->Option (DataW H×List MemPlace))(w:World)(c:w.ownsMap Tryz.prog 3 R b nn D0)(f:Maps.size D0<=maxLen)(a:Maps.size D0*8<=140737488355328) :
  Calls Tryz.prog 86 #[.func (.func 140) #[] #[.pointer (some ⟨w.heap.size,0,none⟩)]] (w.alloc (.cells #[.map (some b)] 77)) λe w'=>∃(v:Value) (ss:List Int),e=.returned v/\ss.Perm (intKeys D0) /\
   w'.ownsRow (w.alloc (.cells #[.map (some b)] 77)).heap.size 3 1 v ss.length ((ss.mergeSort (λx y=>decide (x<=y))).map encZ)/\(v=.slice none 0 0↔ss = [])/\Below (w.alloc (.cells #[.map (some b)] 77)).heap.size (w.alloc (.cells #[.map (some b)] 77)) w':=by
 refine (callsIn_wide (n:=5)).1 ?_;have h:=c.lt
 have g:SeqGives Fence.wide 2 Tryz.prog 140 #[.pointer (some ⟨w.heap.size,0,none⟩)] encZ (λss=>ss.Perm (intKeys D0)) (Maps.size D0) (w.alloc (.cells #[.map (some b)] 77)):=
  AnyZI.keys_gives (ρ:=Z5g) { laidKeys with } Fence.wide _ trivial rfl (by omega) w.heap.size b nn D0 _ (by simp) (by simp) (by
   obtain ⟨es,d,l,j,k,i⟩:=c;exact ⟨es,d,(Below.heap_alloc _ _ b h).trans l,j,k,i⟩)
 exact AnyZI.sorted_in laidSorted _ 5 trivial trivial trivial trivial rfl (by omega) (laidSorts _) (enters_of Tryz.func139 (by kernel_rfl) rfl) 140 _ trivial (enters_of Tryz.func140 (by kernel_rfl) rfl) _ _ f a _ g
end Go.Proofs.YtmmpoppgabadmaaGreat
