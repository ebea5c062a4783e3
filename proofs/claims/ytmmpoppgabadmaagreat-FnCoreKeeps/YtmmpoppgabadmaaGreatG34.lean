import Derived.Test.YtmmpoppgabadmaaGreatG33
import Derived.Test.YtmmpoppgabadmaaGreatG24
set_option linter.unusedVariables false
set_option linter.unusedSimpArgs false
set_option maxRecDepth 100000
set_option maxHeartbeats 16000000
namespace Go.Proofs.YtmmpoppgabadmaaGreat
open Go.RowKit
theorem Z5t {a:Func}{s:Tmp}{tmps:Array Value}{w:World}{v:Value}(c:a.results=#[.tmp s])(b:tmps.getD s undef=v):(results a tmps).run Tryz.prog w=.ok v w:=by
 have e:tmps[s]?.getD undef=v:=by rw [<-b];simp
 simp [results,c,e]
theorem Z7a (w:World)(n:Nat):Below w.heap.size w (w.drewN n):=bdr
end Go.Proofs.YtmmpoppgabadmaaGreat
