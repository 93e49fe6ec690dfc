import Derived.Test.YtfkmajjgkdjncaaGreatDoorGOwn
set_option linter.unusedVariables false
set_option linter.unusedSimpArgs false
namespace Go.Proofs.YtfkmajjgkdjncaaGreatDoor
open Go.RowKit Ru
def ZH:ByteArray:=⟨#[48,49,50,51,52,53,54,55,56,57,97,98,99,100,101,102,103,104,105,106]⟩
def tkI (i:Nat):TK:=⟨⟨#[116]⟩++ZH.extract i (i+1),0,0,.mk 2 [(120,120)] []⟩
def tks:Nat→List TK
 | 0=>[]
 | n+1=>tks n++[tkI (4+n)]
theorem G7:∃i,Tryz.prog.info? 63=some i∧i.zero=some (.agg #[.int .i64 0,.bool false,.slice none 0 0])∧i.size=3∧i.bytes=40:=info_parts (by kernel_rfl)
theorem G6:∃i,Tryz.prog.info? 60=some i∧i.zero=some (.agg #[.slice none 0 0,.int .i64 0,.slice none 0 0,.slice none 0 0,.slice none 0 0])∧i.size=5∧i.bytes=104:=info_parts (by kernel_rfl)
theorem kb {wx X w9:World} {pg n q:Nat} {row:Option Nat} {o:Obj} (v:Value) (h:wx.heap[q]? = some o) (hX:Below wx.heap.size wx X) (hg:X.grownBy w9 row) (hr:row≠some q) (hq:q≠pg):(w9.setCell ⟨pg,n,none⟩ v).heap[q]? = some o:=by
 have:=dK h
 rw[Below.heap_setCell _ _ _ _ (by simpa using hq),hg.block q (by have:=hX.size;omega) (fun e=>hr e.symm)]
 exact aB hX h
end Go.Proofs.YtfkmajjgkdjncaaGreatDoor
