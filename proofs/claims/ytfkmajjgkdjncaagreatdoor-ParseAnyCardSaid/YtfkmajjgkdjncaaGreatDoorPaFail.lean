import Derived.Test.YtfkmajjgkdjncaaGreatDoorPaGet
set_option linter.unusedVariables false
set_option linter.unusedSimpArgs false
set_option maxHeartbeats 4000000
set_option maxRecDepth 100000
namespace Go.Proofs.YtfkmajjgkdjncaaGreatDoor
open Go.RowKit De Wd
abbrev dL (c a:Int):Ending:=.panicked [{ v:=.iface 65 (.agg #[.int .i64 c,.int .i64 a]),recovered:=false }]
theorem vZ (p k d:Nat) (s:ByteArray) (L:Its) (v:Value) (w:World) (h:XI w p s L k d v) :
 Calls Tryz.prog 31 #[.pointer (some ⟨p,0,none⟩)] w fun x w'=>x=dL 3 (aA L s.size k)∧w'=w:=by
 obtain⟨⟨c0,c1,c2,c3⟩,f0,f1,f2,f3⟩:=aJ h.hh
 have HX:=Lib.hid h
 clear h
 go_enter Tryz.func31,Tryz.ntmps31
 go_wp2_with fail
 refine(dx p k k d s L v _ HX.out).mono ?_
 rintro x w1 ⟨rfl,e⟩
 subst e
 go_wp2_with fail
 exact⟨rfl,rfl,rfl⟩
end Go.Proofs.YtfkmajjgkdjncaaGreatDoor
