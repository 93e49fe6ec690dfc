/- Merged. -/
import Derived.Test.YtfkmajjgkdjncaaGreatDoorGSame
import Derived.Deep.RegionHeld
import Derived.Deep.DeepCutAuto
import Derived.Test.YtfkmajjgkdjncaaGreatDoorOwn
set_option linter.unusedVariables false
set_option linter.unusedSimpArgs false
namespace Go.Proofs.YtfkmajjgkdjncaaGreatDoor
open Go.RowKit Ru
abbrev Tq (ra rb rc rd:Nat):Array Value:=#[.string ⟨#[97]⟩,.int .i64 0,.int .i64 1,.int .i64 2,.slice (some ⟨ra,0,none⟩) 1 1,.slice none 0 0,.string ⟨#[98]⟩,.int .i64 0,.int .i64 2,.int .i64 2,.slice (some ⟨rb,0,none⟩) 2 2,.slice none 0 0,
 .string ⟨#[111]⟩,.int .i64 1,.int .i64 3,.int .i64 2,.slice (some ⟨rc,0,none⟩) 1 1,.slice none 0 0,.string ⟨#[99]⟩,.int .i64 2,.int .i64 4,.int .i64 2,.slice (some ⟨rd,0,none⟩) 1 1,.slice none 0 0]
structure Mk0 (w w':World) (pt ra rb rc rd:Nat):Prop where
 aV:Below w.heap.size w w'
 ge:w.heap.size≤pt
 ht:w'.heap[pt]? = some (.cells (Tq ra rb rc rd) 54 (0,0))
 ha:w'.heap[ra]? = some (.cells #[.int .i32 97,.int .i32 97] 79 (0,0))
 hb:w'.heap[rb]? = some (.cells #[.int .i32 10,.int .i32 10,.int .i32 98,.int .i32 98] 79 (0,0))
 hc:w'.heap[rc]? = some (.cells #[.int .i32 99,.int .i32 99] 79 (0,0))
 hd:w'.heap[rd]? = some (.cells #[.int .i32 100,.int .i32 100] 79 (0,0))
def YG:TK:=⟨⟨#[97]⟩,0,1,.mk 2 [(97,97)] []⟩
def T0:List TK:=[YG,⟨⟨#[98]⟩,0,2,.mk 2 [(10,10),(98,98)] []⟩,⟨⟨#[111]⟩,1,3,.mk 2 [(99,99)] []⟩,⟨⟨#[99]⟩,2,4,.mk 2 [(100,100)] []⟩]
theorem Ej {w:World} {g n size:Nat} {cs:Array Value} {e:TypeId} (h:w.heap[g]? = some (.cells cs e (0,0))) (hs:cs.size=n*size) (hn:n≤maxLen):w.ownsRow g e size (.slice (some ⟨g,0,none⟩) n n) n cs.toList:=
 ⟨by simpa using hs,.inr ⟨g,n,cs,rfl,Nat.le_refl _,h,Nat.le_refl _,hn,hs,List.take_of_length_le (by simp[hs])⟩⟩
theorem yL:∃i,Tryz.prog.info? 54=some i∧i.zero=some (.agg #[.string ⟨#[]⟩,.int .i64 0,.int .i64 0,.int .i64 0,.slice none 0 0,.slice none 0 0])∧i.size=6∧i.bytes=88:=info_parts (by kernel_rfl)
structure TW (w wi:World) (pg pt ra rb rc rd:Nat):Prop where
 m0:Mk0 w wi pt ra rb rc rd
 hg:wi.heap[pg]? = some (.cells #[.slice (some ⟨pt,0,none⟩) 4 4,.slice none 0 0] 26 (0,0))
 ge:w.heap.size≤pg
theorem TW.cells {w wi:World} {pg pt ra rb rc rd:Nat} (h:TW w wi pg pt ra rb rc rd):wi.cell? ⟨pg,0,none⟩=some (.slice (some ⟨pt,0,none⟩) 4 4)∧wi.cell? ⟨pg,1,none⟩=some (.slice none 0 0)∧pg<wi.heap.size∧pt<wi.heap.size:=by
 have:=h.hg
 exact⟨by simp[World.cell?,this],by simp[World.cell?,this],dK this,dK h.m0.ht⟩
theorem qD {w:World} {v:Value} {n:Nat} {cs:List Value} (h:Row w v n cs):Row w.drew v n cs:=h.below (Below.refl _ _).drew
structure TH (w wx:World) (pg pt ra rb rc rd ph:Nat) (o9:Option Addr) (c9:Nat):Prop where
 tw:TW w wx pg pt ra rb rc rd
 hh:wx.heap[ph]? = some (.cells #[.slice o9 5 c9,.slice none 0 0] 26 (0,0))
 th:iO wx (.slice o9 5 c9) (T0++[YG])
theorem TH.cells {w wi:World} {pg pt ra rb rc rd ph c9:Nat} {o9:Option Addr} (h:TH w wi pg pt ra rb rc rd ph o9 c9):wi.cell? ⟨ph,0,none⟩=some (.slice o9 5 c9)∧wi.cell? ⟨ph,1,none⟩=some (.slice none 0 0):=by
 have:=h.hh
 exact⟨by simp[World.cell?,this],by simp[World.cell?,this]⟩
abbrev J8 (X:Nat→Prop) (w:World) (B:Nat) (v:Value) (ps:List (TK×Value×Value)):Prop:=Own X w B 54 6 v six (fun w' p=>bI w' p.1.re p.2.1 p.2.2) ps
abbrev NA (X:Nat→Prop) (w:World) (B:Nat) (v:Value) (ps:List (ST×Value×Value×Value×Value)):Prop:=Own X w B 60 5 v five (fun w' p=>Row w' p.2.1 p.1.calls.length (strs p.1.calls)∧bU w' p.1.p p.2.2.1 p.2.2.2.1 p.2.2.2.2) ps
abbrev Ns (X:Nat→Prop) (w:World) (B:Nat) (v:Value) (ps:List (RU×Value)):Prop:=Own X w B 63 3 v three (fun w' p=>jD w' p.2 p.1.steps) ps
theorem Im {α:Type} {l:List α} {i:Nat} {p:α} (h:l[i]? = some p):p∈l:=List.mem_of_getElem? h
theorem J8.are {X:Nat→Prop} {w:World} {B:Nat} {v:Value} {ps:List (TK×Value×Value)} (h:J8 X w B v ps):iO w v (ps.map (·.1)):=
 ⟨ps,rfl,by simpa using Row.owned h.row,fun i p hp=>(h.keep p (Im hp)).here⟩
theorem NA.are {X:Nat→Prop} {w:World} {B:Nat} {v:Value} {ps:List (ST×Value×Value×Value×Value)} (h:NA X w B v ps):jD w v (ps.map (·.1)):=
 ⟨ps,rfl,by simpa using Row.owned h.row,fun i p hp=>(h.keep p (Im hp)).here⟩
theorem Ns.are {X:Nat→Prop} {w:World} {B:Nat} {v:Value} {ps:List (RU×Value)} (h:Ns X w B v ps):jE w v (ps.map (·.1)):=
 ⟨ps,rfl,by simpa using Row.owned h.row,fun i p hp=>(h.keep p (Im hp)).here⟩
end Go.Proofs.YtfkmajjgkdjncaaGreatDoor
