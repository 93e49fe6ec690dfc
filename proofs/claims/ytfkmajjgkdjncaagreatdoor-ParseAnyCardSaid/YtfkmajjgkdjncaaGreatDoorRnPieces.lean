/- Merged. -/
import Derived.Test.YtfkmajjgkdjncaaGreatDoorChecked
import Derived.Test.YtfkmajjgkdjncaaGreatDoorProg
import Derived.Test.YtfkmajjgkdjncaaGreatDoorRows
import Derived.Test.YtfkmajjgkdjncaaGreatDoorPairRow
import Derived.Test.YtfkmajjgkdjncaaGreatDoorRuneMath4
import Derived.Lib.Hide
import Derived.IntWalk
import Derived.Deep.QuietTactic
import Derived.BigQuiet
import Derived.WalkLawsBesides
import Derived.Sort.Grow
import Derived.Shelf.SlSortCmp.WholeK
import Derived.Deep.AppendLies
import Derived.Shelf.SlSortFuncK.WholeK
import Derived.Shelf.Spec.SlicesGrow
import Derived.Ground.SlsfProg
import Derived.Shelf.SlGeneric
import Derived.Shelf.SlSortCmp.NoneTotal
import Derived.Deep.RegionHeld3
import Derived.Test.YtfkmajjgkdjncaaGreatDoorStill
import Derived.Laws.OwnMore
set_option linter.unusedVariables false
set_option linter.unusedSimpArgs false
namespace Go.Proofs.YtfkmajjgkdjncaaGreatDoor.Rn
open Go.RowKit Ru
theorem Du:∃i,Tryz.prog.info? 213=some i∧i.zero=some (.agg #[.int .i64 0,.int .i64 0])∧i.size=2∧i.bytes=16:=info_parts (by kernel_rfl)
theorem mD:∃i,Tryz.prog.info? 79=some i∧i.zero=some (.agg #[.int .i32 0,.int .i32 0])∧i.size=2∧i.bytes=8:=info_parts (by kernel_rfl)
theorem dI {a b:Bool} (h:a=b):Ending.returned (.bool a)=.returned (.bool b):=by rw[h]
theorem eH {k:IntKind} {a b:Int} (h:a=b):Ending.returned (.int k a)=.returned (.int k b):=by rw[h]
theorem mJ {r:Int} (h:0≤r∧r≤1114111∧(r<55296∨57344≤r)):true=fM r:=((jZ r).2 h).symm
theorem mK {r:Int} (h:¬(0≤r∧r≤1114111∧(r<55296∨57344≤r))):false=fM r:=((F7 r).2 h).symm
theorem jW (r : Int) (w : World) : Calls Tryz.prog 165 #[.int .i32 r] w fun e w' => e = .returned (.bool (fM r)) ∧ w = w' := by
 go_enter Tryz.func165,Tryz.ntmps165
 by_cases h1:0≤r
 · by_cases h2 : r ≤ 1114111
   · by_cases h3 : r < 55296
     · go_wp2
       go_ret
       exact⟨dI (by first|exact mJ (by omega)|exact mK (by omega)),rfl⟩
     · by_cases h4 : 57344 ≤ r
       · go_wp2
         go_ret
         exact⟨dI (by first|exact mJ (by omega)|exact mK (by omega)),rfl⟩
       · go_wp2
         go_ret
         exact⟨dI (by first|exact mJ (by omega)|exact mK (by omega)),rfl⟩
   · go_wp2
     go_ret
     exact⟨dI (by first|exact mJ (by omega)|exact mK (by omega)),rfl⟩
 · go_wp2
   go_ret
   exact⟨dI (by first|exact mJ (by omega)|exact mK (by omega)),rfl⟩
theorem uM (r : Int) (w : World) (hr : -2147483648 ≤ r ∧ r ≤ 2147483647) : Calls Tryz.prog 166 #[.int .i32 r] w fun e w' => e = .returned (.int .i64 (aA r)) ∧ w = w' := by
 go_enter Tryz.func166,Tryz.ntmps166
 by_cases h1:r<0
 · go_wp2
   go_ret
   exact⟨eH (by unfold aA;(repeat' split)<;>omega),rfl⟩
 by_cases h2:r<55296
 · go_wp2
   go_ret
   exact⟨eH (by unfold aA;(repeat' split)<;>omega),rfl⟩
 by_cases h3:r<57344
 · go_wp2
   go_ret
   exact⟨eH (by unfold aA;(repeat' split)<;>omega),rfl⟩
 by_cases h4:r≤1114111
 · go_wp2
   go_ret
   exact⟨eH (by unfold aA;(repeat' split)<;>omega),rfl⟩
 · go_wp2
   go_ret
   exact⟨eH (by unfold aA;(repeat' split)<;>omega),rfl⟩
theorem N9 (p : Int) (w : World) (hp : 0 ≤ p ∧ p ≤ 1112064) : Calls Tryz.prog 189 #[.int .i64 p] w fun e w' => e = .returned (.int .i32 (bW p)) ∧ w = w' := by
 go_enter Tryz.func189,Tryz.ntmps189
 by_cases h1:p<55296
 · go_wp2
   go_ret
   exact⟨eH (by unfold bW;simp[IntKind.wrap,IntKind.bits,IntKind.signed];(repeat' split)<;>omega),rfl⟩
 · go_wp2
   go_ret
   exact⟨eH (by unfold bW;simp[IntKind.wrap,IntKind.bits,IntKind.signed];(repeat' split)<;>omega),rfl⟩
end Go.Proofs.YtfkmajjgkdjncaaGreatDoor.Rn

namespace Go.Proofs.YtfkmajjgkdjncaaGreatDoor.Rn
open Go.RowKit Ru Go.Sort
def j5 (x y:Int):Int:=if x<y then -1 else if y<x then 1 else 0
theorem mG (x : Int) (w : World) : Calls Tryz.prog 203 #[.int .i64 x] w fun e w' => e = .returned (.bool false) ∧ w = w' := by
 go_enter Tryz.func203,Tryz.ntmps203
 go_wp2
 go_ret
 exact⟨dI (by simp),rfl⟩
theorem uV (x y : Int) (w : World) : Calls Tryz.prog 188 #[.int .i64 x, .int .i64 y] w fun e w' => e = .returned (.int .i64 (j5 x y)) ∧ w = w' := by
 go_enter Tryz.func188,Tryz.ntmps188
 by_cases h1:x<y
 · go_wp2_with (go_at_call 203; refine (mG _ _).mono ?_; rintro e w' ⟨rfl, rfl⟩)
   go_ret
   exact⟨eH (by unfold j5;(repeat' split)<;>omega),rfl⟩
 · by_cases h2 : y < x
   · go_wp2_with (go_at_call 203; refine (mG _ _).mono ?_; rintro e w' ⟨rfl, rfl⟩)
     go_ret
     exact⟨eH (by unfold j5;(repeat' split)<;>omega),rfl⟩
   · go_wp2_with (go_at_call 203; refine (mG _ _).mono ?_; rintro e w' ⟨rfl, rfl⟩)
     go_ret
     exact⟨eH (by unfold j5;(repeat' split)<;>omega),rfl⟩
theorem Jh (x y : Int × Int) (w : World) : Calls Tryz.prog 187 #[.agg #[.int .i64 x.1, .int .i64 x.2], .agg #[.int .i64 y.1, .int .i64 y.2]] w fun e w' => e = .returned (.int .i64 (j5 x.1 y.1)) ∧ ∃ q os, w' = grow (w.drewN q) os := by
 go_enter Tryz.func187,Tryz.ntmps187
 go_wp2_with (go_at_call 188;refine(uV _ _ _).mono ?_;rintro e w' ⟨rfl,rfl⟩)
 go_ret
 exact⟨rfl,0,_,by rw[alloc_eq_grow,alloc_eq_grow,grow_grow];rfl⟩
theorem Ji (x:Int×Int) (w:World) (h1 : -2147483648≤x.1∧x.1≤2147483647) (h2 : -2147483648≤x.2∧x.2≤2147483647) :
 Calls Tryz.prog 185 #[.agg #[.int .i32 x.1,.int .i32 x.2]] w fun e w'=>e=.returned (.agg #[.int .i64 (bJ x).1,.int .i64 (bJ x).2])∧Below w.heap.size w w':=by
 have hp:=mH x.2
 by_cases hs:fM x.2=true
 · have e : bJ x = (aA x.1, aA x.2 + 1) := by unfold bJ; rw [if_pos hs]
   rw[e]
   clear e
   go_enter Tryz.func185,Tryz.ntmps185
   go_wp2_with (first
    | (go_at_call 166;refine(uM _ _ (by assumption)).mono ?_;rintro e w' ⟨rfl,rfl⟩)
    | (go_at_call 165;refine(jW _ _).mono ?_;rintro e w' ⟨rfl,rfl⟩))
   exact bodyPost_ret (v:=.agg #[.int .i64 (aA x.1),.int .i64 (aA x.2+1)]) (by simp[results,Tryz.results185,go_sem]) rfl ⟨rfl,by repeat (first|exact Below.refl _ _|assumption|(refine Below.drew ?_)|(refine below_drewN ?_ _)|(refine ah ?_ _)|(refine ak ?_ (by assumption)))⟩
 · have hs' : fM x.2 = false := by simpa using hs
   have e:bJ x=(aA x.1,aA x.2):=by unfold bJ;rw[if_neg hs]
   rw[e]
   clear e hs
   go_enter Tryz.func185,Tryz.ntmps185
   go_wp2_with (first
    | (go_at_call 166;refine(uM _ _ (by assumption)).mono ?_;rintro e w' ⟨rfl,rfl⟩)
    | (go_at_call 165;refine(jW _ _).mono ?_;rintro e w' ⟨rfl,rfl⟩))
   exact bodyPost_ret (v:=.agg #[.int .i64 (aA x.1),.int .i64 (aA x.2)]) (by simp[results,Tryz.results185,go_sem]) rfl ⟨rfl,by repeat (first|exact Below.refl _ _|assumption|(refine Below.drew ?_)|(refine below_drewN ?_ _)|(refine ah ?_ _)|(refine ak ?_ (by assumption)))⟩
end Go.Proofs.YtfkmajjgkdjncaaGreatDoor.Rn

namespace Go.Proofs.YtfkmajjgkdjncaaGreatDoor.Rn
open Go.RowKit Ru
def gX (x:Int×Int):List Value:=[.int .i64 x.1,.int .i64 x.2]
theorem Bv (l:List (Int×Int)):(Sort.flatK gX 2 l.toArray).toList=flatK .i64 l:=by
 apply List.ext_getElem?
 intro j
 by_cases hj:j<l.length*2
 · have h1 : j / 2 < l.length := by omega
   have e0:(Sort.flatK gX 2 l.toArray)[j]! = (gX l.toArray[j / 2]!)[j % 2]!:=Sort.get_flatK _ _ _ _ (by simpa using hj)
   have hsz:j<(Sort.flatK gX 2 l.toArray).size:=by simpa using hj
   have e1:(Sort.flatK gX 2 l.toArray).toList[j]? = some ((Sort.flatK gX 2 l.toArray)[j]!):=by
    rw[Array.getElem?_toList,getElem!_pos _ j hsz,Array.getElem?_eq_getElem hsz]
   obtain⟨c1,c2⟩:=qx .i64 l (j / 2) h1
   have e2:l.toArray[j / 2]! = l.getD (j / 2) (0,0):=by
    rw[getElem!_pos _ _ (by simpa using h1)];simp[List.getD,List.getElem?_eq_getElem h1]
   rw[e1,e0,e2]
   rcases(show j % 2=0∨j % 2=1 by omega) with h|h
   · rw[show j=j / 2*2 by omega,c1,←show j=j / 2*2 by omega,h];rfl
   · rw[show j=j / 2*2+1 by omega,c2,←show j=j / 2*2+1 by omega,h];rfl
 · rw[List.getElem?_eq_none (by simp;omega),List.getElem?_eq_none (by rw[mh];omega)]
theorem FX {w:World} {g:Nat} {cur:Array Value} {e:TypeId} {l:List (Int×Int)} (hb:w.heap[g]? = some (.cells cur e (0,0))) (ht:cur.toList.take (l.length*2)=flatK .i64 l):Sort.HoldsK gX 2 w g 0 l.toArray:=by
 intro j hj
 have hj':j<l.length*2:=by simpa using hj
 refine⟨?_,by simp[World.frozen?,hb]⟩
 have h1:(cur.toList.take (l.length*2))[j]? = (flatK .i64 l)[j]?:=by rw[ht]
 rw[List.getElem?_take_of_lt hj',←Bv,Array.getElem?_toList,Array.getElem?_toList] at h1
 simp only[World.cell?,hb,Nat.zero_add]
 simp only[Option.isSome_none,Bool.false_eq_true,if_false]
 rw[h1,Array.getElem?_eq_getElem hj,getElem!_pos _ j hj];rfl
theorem tK {w:World} {g n:Nat} {os:Array Obj} {cur:Array Value} {e:TypeId} {fr:Nat×Nat} (d:Array (Int×Int)) (hb:w.heap[g]? = some (.cells cur e fr)) :
 (sortWorldK gX 2 w g 0 n d os).heap[g]? = some (.cells (Sort.putCells id 0 (Sort.flatK gX 2 d) cur) e fr):=by
 have hlt:=(Array.getElem?_eq_some_iff.1 hb).1
 unfold sortWorldK
 rw[Sort.heap_grow_old _ _ (by simpa [Sort.putRowK,Sort.putRow,Sort.mapBlock,Sort.ahead] using hlt)]
 simp[Sort.putRowK,Sort.putRow,Sort.mapBlock,Sort.ahead,Array.getElem?_modify,hb,Sort.onCells]
theorem pG {w:World} {g n:Nat} {os:Array Obj} (d:Array (Int×Int)):w.grownBy (sortWorldK gX 2 w g 0 n d os) (some g):=by
 refine⟨rfl,rfl,rfl,by simp[sortWorldK,Sort.grow,Sort.putRowK,Sort.putRow,Sort.mapBlock,Sort.ahead],fun k hk hne=>?_⟩
 unfold sortWorldK
 rw[Sort.heap_grow_old _ _ (by simpa [Sort.putRowK,Sort.putRow,Sort.mapBlock,Sort.ahead] using hk)]
 have:g≠k:=fun e=>hne (by rw[e])
 simp[Sort.putRowK,Sort.putRow,Sort.mapBlock,Sort.ahead,Array.getElem?_modify,this]
theorem pI {w:World} {base g cap n:Nat} {e:TypeId} {os:Array Obj} {cur:Array Value} {l:List (Int×Int)} {d:Array (Int×Int)} (hl:d.size=l.length) (hbase:base≤g) (hb:w.heap[g]? = some (.cells cur e (0,0)))
 (h1:l.length≤cap) (h2:cap≤maxLen) (h3:cur.size=cap*2) :
 (sortWorldK gX 2 w g 0 n d os).ownsRow base e 2 (.slice (some ⟨g,0,none⟩) l.length cap) l.length (flatK .i64 d.toList):=by
 refine⟨by rw[mh];simp[hl],.inr ⟨g,cap,_,rfl,hbase,tK d hb,h1,h2,by simp[Sort.putCells,h3],?_⟩⟩
 have e0:flatK .i64 d.toList=(Sort.flatK gX 2 d).toList:=by rw[←Bv]
 rw[e0]
 apply List.ext_getElem?
 intro j
 by_cases hj:j<l.length*2
 · have hj2 : j < d.size * 2 := by omega
   rw[List.getElem?_take_of_lt hj,Array.getElem?_toList,Array.getElem?_toList]
   simp[Sort.putCells,hj2,show j<cur.size by omega]
 · rw[List.getElem?_take_eq_none (by omega),List.getElem?_eq_none (by simp;omega)]
theorem CZ {l:List (Int×Int)} {d:Array (Int×Int)} (h:Sort.PermIn 0 l.toArray.size l.toArray d):d.size=l.length∧d.toList.Perm l:=by
 obtain⟨h1,_,h3⟩:=h
 have hs:d.size=l.length:=by simpa using h1
 refine⟨hs,?_⟩
 have e1:d.extract 0 l.toArray.size=d:=by
  rw[show l.toArray.size=d.size by simpa using hs.symm];simp
 have e2:l.toArray.extract 0 l.toArray.size=l.toArray:=by simp
 rw[e1,e2] at h3
 simpa using h3
end Go.Proofs.YtfkmajjgkdjncaaGreatDoor.Rn

namespace Go.Proofs.YtfkmajjgkdjncaaGreatDoor
open Go.Shelf
def Tryz.LC:Go.Shelf.Ren:=⟨fun|6=>186|15=>202|14=>201|28=>219|29=>220|20=>211|21=>212|22=>213|23=>214|24=>215|25=>216|26=>217|27=>218|46=>231|47=>232|48=>233|49=>234|50=>235|57=>251|n=>n,fun|22=>211|24=>213|25=>227|3=>3|39=>37|0=>0|53=>44|55=>216|4=>4|46=>247|45=>246|50=>251|5=>5|9=>9|66=>261|70=>265|76=>275|77=>76|n=>n,fun|n=>n⟩
theorem Tryz.Oa:Go.Proofs.SlLaysF0.n6 Tryz.prog Tryz.LC:={
 mixed:=by kernel_rfl
 f6:=⟨Tryz.f186.name,by decide,Tryz.func186.trans (congrArg some (by kernel_rfl))⟩
 f14:=⟨Tryz.f201.name,by decide,Tryz.func201.trans (congrArg some (by kernel_rfl))⟩
 f15:=Tryz.func202.trans (congrArg some (by kernel_rfl))
 f20:=⟨Tryz.f211.name,by decide,Tryz.func211.trans (congrArg some (by kernel_rfl))⟩
 f21:=⟨Tryz.f212.name,by decide,Tryz.func212.trans (congrArg some (by kernel_rfl))⟩
 f22:=⟨Tryz.f213.name,by decide,Tryz.func213.trans (congrArg some (by kernel_rfl))⟩
 f23:=⟨Tryz.f214.name,by decide,Tryz.func214.trans (congrArg some (by kernel_rfl))⟩
 f24:=⟨Tryz.f215.name,by decide,Tryz.func215.trans (congrArg some (by kernel_rfl))⟩
 f25:=⟨Tryz.f216.name,by decide,Tryz.func216.trans (congrArg some (by kernel_rfl))⟩
 f26:=⟨Tryz.f217.name,by decide,Tryz.func217.trans (congrArg some (by kernel_rfl))⟩
 f27:=⟨Tryz.f218.name,by decide,Tryz.func218.trans (congrArg some (by kernel_rfl))⟩
 f28:=Tryz.func219.trans (congrArg some (by kernel_rfl))
 f29:=Tryz.func220.trans (congrArg some (by kernel_rfl))
 f46:=⟨Tryz.f231.name,by decide,Tryz.func231.trans (congrArg some (by kernel_rfl))⟩
 f47:=Tryz.func232.trans (congrArg some (by kernel_rfl))
 f48:=Tryz.func233.trans (congrArg some (by kernel_rfl))
 f49:=⟨Tryz.f234.name,by decide,Tryz.func234.trans (congrArg some (by kernel_rfl))⟩
 f50:=⟨Tryz.f235.name,by decide,Tryz.func235.trans (congrArg some (by kernel_rfl))⟩
 f57:=⟨Tryz.f251.name,by decide,Tryz.func251.trans (congrArg some (by kernel_rfl))⟩
 t0:=Tryz.underlying0
 a0:=Tryz.isAgg0
 z0:=Tryz.sizeOf0
 v0:=Tryz.zeroValue0
 t3:=Tryz.underlying3
 a3:=Tryz.isAgg3
 z3:=Tryz.sizeOf3
 v3:=Tryz.zeroValue3
 t4:=Tryz.underlying4
 a4:=Tryz.isAgg4
 z4:=Tryz.sizeOf4
 v4:=Tryz.zeroValue4
 t5:=Tryz.underlying5
 a5:=Tryz.isAgg5
 z5:=Tryz.sizeOf5
 v5:=Tryz.zeroValue5
 t9:=Tryz.underlying9
 a9:=Tryz.isAgg9
 z9:=Tryz.sizeOf9
 v9:=Tryz.zeroValue9
 t22:=Tryz.underlying211
 a22:=Tryz.isAgg211
 z22:=Tryz.sizeOf211
 v22:=Tryz.zeroValue211
 t25:=Tryz.underlying227
 a25:=Tryz.isAgg227
 z25:=Tryz.sizeOf227
 v25:=Tryz.zeroValue227
 t39:=Tryz.underlying37
 a39:=Tryz.isAgg37
 z39:=Tryz.sizeOf37
 v39:=Tryz.zeroValue37
 t45:=Tryz.underlying246
 a45:=Tryz.isAgg246
 z45:=Tryz.sizeOf246
 v45:=Tryz.zeroValue246
 t46:=Tryz.underlying247
 a46:=Tryz.isAgg247
 z46:=Tryz.sizeOf247
 v46:=Tryz.zeroValue247
 t50:=Tryz.underlying251
 a50:=Tryz.isAgg251
 z50:=Tryz.sizeOf251
 v50:=Tryz.zeroValue251
 t53:=Tryz.underlying44
 a53:=Tryz.isAgg44
 z53:=Tryz.sizeOf44
 v53:=Tryz.zeroValue44
 t55:=Tryz.underlying216
 a55:=Tryz.isAgg216
 z55:=Tryz.sizeOf216
 v55:=Tryz.zeroValue216
 t66:=Tryz.underlying261
 a66:=Tryz.isAgg261
 z66:=Tryz.sizeOf261
 v66:=Tryz.zeroValue261
 t70:=Tryz.underlying265
 a70:=Tryz.isAgg265
 z70:=Tryz.sizeOf265
 v70:=Tryz.zeroValue265
 t76:=Tryz.underlying275
 a76:=Tryz.isAgg275
 z76:=Tryz.sizeOf275
 v76:=Tryz.zeroValue275
 t77:=Tryz.underlying76
 a77:=Tryz.isAgg76
 z77:=Tryz.sizeOf76
 v77:=Tryz.zeroValue76 }
end Go.Proofs.YtfkmajjgkdjncaaGreatDoor

set_option maxHeartbeats 1000000
namespace Go.Proofs.YtfkmajjgkdjncaaGreatDoor.Rn
open Go.RowKit Ru
theorem pJ (x y : Int × Int) : ltOf (fun x y : Int × Int => j5 x.1 y.1) x y = decide (x.1 < y.1) := by
 unfold ltOf j5
 by_cases h1:x.1<y.1
 · simp[h1]
 · by_cases h2:y.1<x.1<;>simp[h1,h2]
theorem C8 : Sort.SWO (ltOf fun x y : Int × Int => j5 x.1 y.1) where
 irrefl x:=by rw[pJ];simp
 trans x y z h1 h2:=by rw[pJ] at *;simp at *;omega
 ntrans x y z h1 h2:=by rw[pJ] at *;simp at *;omega
theorem xZ {d : Array (Int × Int)} {n : Nat} (hn : d.size = n) (h : Sort.SortedIn (ltOf fun x y : Int × Int => j5 x.1 y.1) 0 n d) : Sorted d.toList := by
 intro i j hij hj
 have hj':j<d.size:=by simpa using hj
 have h1:=h i j (Nat.zero_le _) hij (by omega)
 rw[pJ] at h1
 have e1:d.toList.getD i (0,0)=d[i]!:=by rw[getElem!_pos d i (by omega)];simp[List.getD,show i<d.size by omega]
 have e2:d.toList.getD j (0,0)=d[j]!:=by rw[getElem!_pos d j hj'];simp[List.getD,hj']
 rw[e1,e2]
 simp at h1;omega
theorem LD (l:List Pc) (v:Value) (base:Nat) (w:World) (hown:w.ownsRow base 213 2 v l.length (flatK .i64 l)) (hn:l.length≤100000) :
 Calls Tryz.prog 186 #[v,.func (.func 187) #[] #[]] w fun e w'=>e=.returned (.tuple #[])∧∃d:List Pc,d.Perm l∧Sorted d∧w'.ownsRow base 213 2 v l.length (flatK .i64 d)∧w.grownBy w' v.ownBlock:=by
 rcases hown.2 with⟨rfl,h0⟩|⟨g,cap,cur,rfl,hbase,hb,h1,h2,h3,h4⟩
 · have hcon := AnyF.slices_SortFunc_none (P := Tryz.prog) Tryz.Oa none 0 (.func (.func 187) #[] #[]) w
   change Calls Tryz.prog 186 _ _ _ at hcon
   refine hcon.mono fun e w' ⟨he,hw⟩=>?_
   subst hw
   have hl:l=[]:=List.eq_nil_of_length_eq_zero h0
   subst hl
   exact⟨he,[],List.Perm.refl _,fun i j _ hj=>by simp at hj,hown,World.grownBy.refl _ _⟩
 · have eg : ∀ args w, (callFunc 187 args).run Tryz.prog w = .ok (.enter 187 args) w := enters_of Tryz.func187 (by kernel_rfl) rfl
   have hcon:=AnyQ.slices_SortFunc Tryz.Oa 2 Tryz.isAgg213 Tryz.sizeOf213 gX (fun _=>rfl) (fun x v hv=>by simp[gX] at hv;rcases hv with rfl|rfl<;>rfl) (fun x y=>j5 x.1 y.1) C8 187 #[] g 0 cap l.toArray w eg (fun _ _ _ _ x y=>Jh x y _) (FX hb h4) (Array.getElem?_eq_some_iff.1 hb).1 (by simp;omega)
   change Calls Tryz.prog 186 _ _ _ at hcon
   have e:l.toArray.size=l.length:=by simp
   rw[e] at hcon
   refine hcon.mono fun e w' ⟨he,d',n,os,hp,hs,hw⟩=>?_
   subst hw
   obtain⟨p1,p2⟩:=CZ (by simpa using hp)
   exact⟨he,d'.toList,p2,xZ p1 hs,pI p1 hbase hb h1 h2 h3,pG d'⟩
end Go.Proofs.YtfkmajjgkdjncaaGreatDoor.Rn

set_option maxHeartbeats 1000000
set_option maxRecDepth 1000000
namespace Go.Proofs.YtfkmajjgkdjncaaGreatDoor.Rn
open Go.RowKit Ru Go.Sort
theorem Er {w:World} {v:Value} {n:Nat} {cs:List Value} (h:Row w v n cs):∃o c,v=.slice o n c:=by obtain⟨o,c,e,_⟩:=h;exact⟨o,c,e⟩
theorem pK {x:Int} (h : -9223372036854775808≤x∧x≤9223372036854775807):IntKind.i64.wrap x=x:=IntWalk.i64_in _ h
theorem vS (P:List Pc) (k:Nat) (h:k<P.length):aY (P.take (k+1))=aY (P.take k)++[(bW (P.getD k (0,0)).1,bW ((P.getD k (0,0)).2-1))]:=by
 rw[take_one P (0,0) k h];simp[aY]
theorem iB (P:List Pc):(aY P).length=P.length:=by simp[aY]
theorem Nh (w:World) (u v:Value) (e:TypeId) (B:Nat) (hB:w.heap.size=B):Row (w.alloc (.cells #[u,v] e)).drew (.slice (some ⟨B,0,none⟩) 1 1) 1 [u,v]:=by
 subst hB
 refine⟨_,_,rfl,Nat.le_refl _,by decide,.inr ⟨w.heap.size,0,rfl,by simp,fun j x hx=>?_⟩⟩
 rw[Nat.zero_add,World.cell?_drew,World.cell?_alloc_mark]
 simpa using hx
theorem iW (w:World) (u v:Value) (e:TypeId) (B:Nat) (hB:w.heap.size=B):Row (w.alloc (.cells #[u,v] e)) (.slice (some ⟨B,0,none⟩) 1 1) 1 [u,v]:=by
 subst hB
 refine⟨_,_,rfl,Nat.le_refl _,by decide,.inr ⟨w.heap.size,0,rfl,by simp,fun j x hx=>?_⟩⟩
 rw[Nat.zero_add,World.cell?_alloc_mark]
 simpa using hx
theorem Kr (P:List Pc) (v:Value) (w:World) (hr:Row w v P.length (flatK .i64 P)) (hn:P.length≤10000000) (hb:∀q∈P,0≤q.1∧q.1<q.2∧q.2≤1112064) :
 Calls Tryz.prog 178 #[v] w fun e w'=>∃u,e=.returned u∧w'.ownsRow w.heap.size 79 2 u (aY P).length (flatK .i32 (aY P))∧Below w.heap.size w w':=by
 obtain⟨i0,hi,hz0,hz1,hz2⟩:=mD
 have Hr:=Lib.hid hr
 have Hb:=Lib.hid hb
 obtain⟨o,cap,rfl,hcap,hmax,_⟩:=hr
 clear hb
 go_enter Tryz.func178,Tryz.ntmps178
 go_wp2_with fail
 go_loopw [3, 8] (fun u i wr => ∃ k : Nat, k ≤ P.length ∧ i = .int .i64 k ∧ wr.ownsRow w.heap.size 79 2 u (aY (P.take k)).length (flatK .i32 (aY (P.take k))) ∧ Below w.heap.size w wr)
  (fun _ i _=>P.length-(intOf i).toNat)
 case atStart=>exact⟨0,Nat.zero_le _,rfl,World.ownsRow_nil _ _ _ _,Below.refl _ _⟩
 case round=>
  obtain⟨k,hk,rfl,hown,hbel⟩:=hrel
  by_cases hk2:k<P.length
  · obtain ⟨b, off, cap', e, hlt⟩ := Hr.out.head (by omega)
    simp only[Value.slice.injEq,true_and] at e
    obtain⟨rfl,rfl⟩:=e
    obtain⟨_,c1,c2⟩:=Hr.out.pair hk2 rfl
    rw[←hbel.cell hlt] at c1 c2
    have hs:=vS P k hk2
    obtain⟨q,hq⟩:∃q,q=P.getD k (0,0):=⟨_,rfl⟩
    have lG:=Hb.out q (by rw[hq];simp[List.getD,List.getElem?_eq_getElem hk2])
    rw[←hq] at c1 c2 hs
    obtain⟨lo,hi'⟩:=q
    simp only at c1 c2 hs lG
    obtain⟨hq1,hq2,hq3⟩:=lG
    have hle:(aY (P.take k)).length≤k:=by rw[iB];simp;omega
    have Hs:=Lib.hid hs
    have Hq:=Lib.hid hq
    clear hs hq
    go_wp2_with fail
    have hw1:IntKind.i64.wrap (hi'-1)=hi'-1:=pK (by omega)
    have ZJ:u3.ownBlock≠some wr.heap.size:=fun e=>by have:=(hown.lt _ e).2;omega
    go_region_held3 (fun w' => w'.cell? ⟨wr.heap.size, 0, none⟩ = some (.int .i64 lo) ∧ w'.cell? ⟨wr.heap.size, 1, none⟩ = some (.int .i64 hi'))
     (first|(simp[go_sem];done)|go_keep|(refine⟨?_,?_⟩<;>(rw[hgrow1.cell_far _ (by simp;omega) (Ne.symm ZJ)];simp[go_sem])))
     (first
      | (go_at_call 189;refine(N9 _ _ (by omega)).mono ?_;rintro e w' ⟨rfl,rfl⟩)
      | (refine uH _ (by rfl) _ _ 32 (by rfl) w.heap.size 79 i0 _ 2 8 Tryz.underlying32 hi hz0 hz1 hz2 rfl (by omega) _ _ _ (by rfl) ((hown.alloc _).alloc _).drew _ 1 [.int .i32 (bW lo),.int .i32 (bW (hi'-1))] (by rfl) (Nh _ _ _ _ (wr.heap.size+1) (by simp)) (by rfl) (by simp[Value.oneCell']) (by unfold maxLen;omega) (by omega) (by have:=hbel.size;simp;omega) ?_;intro v' w1 hown1 hgrow1))
    have hB1:Below w.heap.size w w1:=uG (by repeat (first|exact Below.refl _ _|assumption|(refine Below.drew ?_)|(refine below_drewN ?_ _)|(refine ah ?_ _)|(refine ak ?_ (by assumption)))) hgrow1 (fun j hj=>(hown.lt j hj).1)
    have H1:=Lib.hid (And.intro hown1 hB1)
    clear hown1 hgrow1 hB1 hown hbel
    go_wp2
    go_roundw
    case rel=>exact⟨k+1,by omega,by go_num,by rw[Hs.out,List.length_append,fH];exact H1.out.1,H1.out.2⟩
    case measure=>simp[intOf]<;>omega
  · have hkn : k = P.length := by omega
    subst hkn
    rw[List.take_length] at hown
    go_wp2
    go_ret
    exact⟨_,rfl,hown,hbel⟩
end Go.Proofs.YtfkmajjgkdjncaaGreatDoor.Rn

set_option maxHeartbeats 4000000
set_option maxRecDepth 1000000
namespace Go.Proofs.YtfkmajjgkdjncaaGreatDoor.Rn
open Go.RowKit Ru
theorem xD (l:List Pc) (k:Nat) (h:k<l.length):raw (l.take (k+1))=raw (l.take k)++if (bJ (l.getD k (0,0))).1<(bJ (l.getD k (0,0))).2 then [bJ (l.getD k (0,0))] else []:=by
 rw[take_one l (0,0) k h]
 unfold raw
 rw[List.map_append,List.filter_append]
 congr 1
 by_cases h:(bJ (l.getD k (0,0))).1<(bJ (l.getD k (0,0))).2<;>simp only[List.map_cons,List.map_nil,List.filter_cons,List.filter_nil,h,decide_true,decide_false,if_true,if_false]<;>simp
theorem xL (l:List Pc):(raw l).length≤l.length:=by
 unfold raw
 have:=List.length_filter_le (fun p:Pc=>decide (p.1<p.2)) (l.map bJ)
 simpa using this
theorem dn {w:World} {base:Nat} {e:TypeId} {size n:Nat} {v:Value} {xs:List Value} (h:w.ownsRow base e size v n xs) (q:Nat):(w.drewN q).ownsRow base e size v n xs:=bS h (below_drewN (Below.refl _ _) q)
def sK (l:List (Int×Int)):Prop:=∀p∈l,(-2147483648≤p.1∧p.1≤2147483647)∧(-2147483648≤p.2∧p.2≤2147483647)
theorem Kq (l:List (Int×Int)) (v:Value) (w:World) (hr:Row w v l.length (flatK .i32 l)) (hz:sK l) (hn:l.length≤100000) :
 Calls Tryz.prog 177 #[v] w fun e w'=>∃u,e=.returned u∧w'.ownsRow w.heap.size 213 2 u (aT l).length (flatK .i64 (aT l))∧Below w.heap.size w w':=by
 obtain⟨i0,hi,hz0,hz1,hz2⟩:=Du
 have Hr:=Lib.hid hr
 have Hz:=Lib.hid hz
 obtain⟨o,cap,rfl,hcap,hmax,_⟩:=hr
 clear hz
 go_enter Tryz.func177,Tryz.ntmps177
 go_wp2_with fail
 go_loopw [3, 13] (fun u i wr => ∃ k : Nat, k ≤ l.length ∧ i = .int .i64 k ∧ wr.ownsRow w.heap.size 213 2 u (raw (l.take k)).length (flatK .i64 (raw (l.take k))) ∧ Below w.heap.size w wr)
  (fun _ i _=>l.length-(intOf i).toNat)
 case atStart=>exact⟨0,Nat.zero_le _,rfl,World.ownsRow_nil _ _ _ _,Below.refl _ _⟩
 case round=>
  obtain⟨k,hk,rfl,hown,hbel⟩:=hrel
  by_cases hk2:k<l.length
  · obtain ⟨b, off, cap', e, hlt⟩ := Hr.out.head (by omega)
    simp only[Value.slice.injEq,true_and] at e
    obtain⟨rfl,rfl⟩:=e
    obtain⟨_,c1,c2⟩:=Hr.out.pair hk2 rfl
    rw[←hbel.cell hlt] at c1 c2
    have hs:=xD l k hk2
    obtain⟨q,hq⟩:∃q,q=l.getD k (0,0):=⟨_,rfl⟩
    have lG:=Hz.out q (by rw[hq];simp[List.getD,List.getElem?_eq_getElem hk2])
    rw[←hq] at c1 c2 hs
    have hle:(raw (l.take k)).length≤k:=by have:=xL (l.take k);simp at this;omega
    have Hs:=Lib.hid hs
    have Hq:=Lib.hid hq
    have YO:=Lib.hid lG
    clear hs hq lG
    obtain⟨lo,hi'⟩:=q
    simp only at c1 c2
    go_wp2_with fail
    refine(Ji (lo,hi') _ YO.out.1 YO.out.2).mono ?_
    rintro e w1 ⟨rfl,hb1⟩
    have hown1:=bS (hown.alloc (.cells #[.int .i32 lo,.int .i32 hi'] 79)) hb1
    have hB1:Below w.heap.size w w1:=ak (by repeat (first|exact Below.refl _ _|assumption|(refine Below.drew ?_)|(refine below_drewN ?_ _)|(refine ah ?_ _)|(refine ak ?_ (by assumption)))) hb1
    clear hown hbel hb1 c1 c2
    obtain⟨p,hp⟩:∃p,p=bJ (lo,hi'):=⟨_,rfl⟩
    have hpr:=Bz (lo,hi')
    rw[←hp] at hpr ⊢
    obtain⟨a,c⟩:=p
    have Hp:=Lib.hid hp
    clear hp
    simp only at hpr
    by_cases hac:a<c
    · go_wp2_with (at_builtin; refine bB _ rfl _ _ 211 rfl w.heap.size 213 i0 (.agg #[.int .i64 0, .int .i64 0]) 2 16 Tryz.underlying211 hi hz0 hz1 hz2 rfl (by decide) _ _ _ rfl ((hown1.alloc _).alloc _) _ 1 [.int .i64 a, .int .i64 c] rfl (iW _ _ _ _ (w1.heap.size + 1) (by simp)) rfl (by simp [Value.oneCell']) (by unfold maxLen; omega) (by omega) (by have := hB1.size; simp; omega) ?_; intro v' w2 hown2 hgrow2)
      have hB2:Below w.heap.size w w2:=uG (by repeat (first|exact Below.refl _ _|assumption|(refine Below.drew ?_)|(refine below_drewN ?_ _)|(refine ah ?_ _)|(refine ak ?_ (by assumption)))) hgrow2 (fun j hj=>(hown1.lt j hj).1)
      have H1:=Lib.hid (And.intro hown2 hB2)
      clear hown2 hgrow2 hB2 hown1 hB1
      go_wp2
      go_roundw
      case rel=>exact⟨k+1,by omega,by go_num,by rw[Hs.out,←Hp.out,if_pos hac,List.length_append,fH];exact H1.out.1,H1.out.2⟩
      case measure=>simp[intOf]<;>omega
    · have H1 := Lib.hid (And.intro hown1 hB1)
      clear hown1 hB1
      go_wp2
      go_roundw
      case rel=>exact⟨k+1,by omega,by go_num,by rw[Hs.out,←Hp.out,if_neg (Int.not_lt.2 hac),List.append_nil];exact H1.out.1.alloc _,ah H1.out.2 _⟩
      case measure=>simp[intOf]<;>omega
  · have hkn : k = l.length := by omega
    subst hkn
    rw[List.take_length] at hown
    have hrl:=xL l
    go_wp2_with fail
    refine(LD (raw l) _ _ _ hown (by omega)).mono ?_
    rintro e w2 ⟨rfl,d,hperm,hsort,hown2,hg2⟩
    have hB2:Below w.heap.size w w2:=uG hbel hg2 (fun j hj=>(hown.lt j hj).1)
    have hdl:d.length=(raw l).length:=hperm.length_eq
    rw[←hdl] at hown2 hrl
    have hR:=Row.owned hown2
    have hM:=DV l d hsort (fun q=>hperm.mem_iff)
    have H0:=Lib.hid (And.intro hM (And.intro hB2 (And.intro hperm hsort)))
    have HR:=Lib.hid hR
    clear hown hbel hg2 hown2 hM hB2 hperm hsort hdl
    obtain⟨o3,c3,rfl⟩:=Er hR
    clear hR
    go_wp2_with fail
    obtain⟨B,hB⟩:∃B,B=w2.heap.size:=⟨_,rfl⟩
    go_loopw [7, 33] (fun u i wr => ∃ k : Nat, k ≤ d.length ∧ i = .int .i64 k ∧ wr.ownsRow B 213 2 u (merge (d.take k)).length (flatK .i64 (merge (d.take k))) ∧ Below B w2 wr)
     (fun _ i _=>d.length-(intOf i).toNat)
    case atStart=>exact⟨0,Nat.zero_le _,rfl,World.ownsRow_nil _ _ _ _,Below.refl _ _⟩
    case round=>
     obtain⟨k,hk,rfl,hown,hbel⟩:=hrel
     have F5:B≤wr.heap.size:=by rw[hB];exact hbel.size
     by_cases hk2:k<d.length
     · obtain ⟨b, off, cap', e, hlt⟩ := HR.out.head (by omega)
       simp only[Value.slice.injEq,true_and] at e
       obtain⟨rfl,rfl⟩:=e
       obtain⟨_,c1,c2⟩:=HR.out.pair hk2 rfl
       have OU:b<B:=by rw[hB];exact hlt
       rw[←hbel.cell OU] at c1 c2
       have hs:=take_one d (0,0) k hk2
       obtain⟨p,hp⟩:∃p,p=d.getD k (0,0):=⟨_,rfl⟩
       rw[←hp] at c1 c2 hs
       have hml:=qP (d.take k)
       rw[List.length_take] at hml
       have Hp:=Lib.hid hp
       have Hs:=Lib.hid hs
       obtain⟨M,hM⟩:∃M,M=merge (d.take k):=⟨_,rfl⟩
       rw[←hM] at hown hml
       obtain⟨lo,hi'⟩:=p
       simp only at c1 c2
       by_cases hk0:k=0
       · have hM0 : M = [] := by rw [hM, hk0]; rfl
         subst hM0
         have HM:=Lib.hid (And.intro hM hk0)
         clear hM hs hp hk0
         obtain⟨o7,c7,rfl⟩:=Er (Row.owned hown)
         have hnil:([]:List Pc).length=0:=rfl
         rw[hnil] at hown ⊢
         go_wp2_with fail
         go_quiet (fail)
         have f1:=dn (hown.alloc (.cells #[.int .i64 lo,.int .i64 hi'] 213)) nq
         have f2:Below B w2 ((wr.alloc (.cells #[.int .i64 lo,.int .i64 hi'] 213)).drewN nq):=below_drewN (hbel.alloc F5 _) nq
         have f3:((wr.alloc (.cells #[.int .i64 lo,.int .i64 hi'] 213)).drewN nq).cell? ⟨wr.heap.size,0,none⟩=some (.int .i64 lo):=by simp
         have f4:((wr.alloc (.cells #[.int .i64 lo,.int .i64 hi'] 213)).drewN nq).cell? ⟨wr.heap.size,1,none⟩=some (.int .i64 hi'):=by simp
         generalize hwq:(wr.alloc (.cells #[.int .i64 lo,.int .i64 hi'] 213)).drewN nq=wq at f1 f2 f3 f4 ⊢
         have f5:B≤wq.heap.size:=by rw[hB];exact f2.size
         clear hwq hown hbel
         go_wp2_with (at_builtin;go_loud (refine bB _ rfl _ _ 211 rfl B 213 i0 (.agg #[.int .i64 0,.int .i64 0]) 2 16 Tryz.underlying211 hi hz0 hz1 hz2 rfl (by decide) _ _ _ rfl (f1.alloc _) _ 1 [.int .i64 lo,.int .i64 hi'] rfl (iW _ _ _ _ wq.heap.size rfl) rfl (by simp[Value.oneCell']) (by unfold maxLen;omega) (by omega) (by simp;omega) ?_);intro v' w3 hown3 hgrow3)
         have hB3:Below B w2 w3:=(f2.alloc f5 _).grown hgrow3 (by simp;omega) (fun j hj=>(f1.lt j hj).1)
         have H1:=Lib.hid (And.intro hown3 hB3)
         clear hown3 hgrow3 hB3 f1 f2 f3 f4
         go_roundw
         case rel=>exact⟨k+1,by omega,by go_num,by rw[Hs.out,HM.out.2];exact H1.out.1,H1.out.2⟩
         case measure=>simp[intOf]<;>omega
       · have ZK := hml
         obtain⟨t,q,e1,e2⟩:=Bw (d.take k) (lo,hi') (by intro h;have:=congrArg List.length h;rw[List.length_take,List.length_nil] at this;omega)
         obtain⟨qa,qc⟩:=q
         rw[←hM] at e1
         subst e1
         have e3:(t++[(qa,qc)]).length=t.length+1:=by simp
         have e4:(flatK .i64 (t++[(qa,qc)]))[t.length*2+1]? = some (.int .i64 qc):=by
          have:=(qx .i64 (t++[(qa,qc)]) t.length (by simp)).2
          rwa [DL] at this
         obtain⟨g,c7,rfl⟩:=Joins.ownsRow_form hown (by simp)
         have e5:=hown
         rw[e3] at e5
         have hml:t.length+1≤k:=by rw[←e3];omega
         obtain⟨m,hm⟩:∃m,m=t.length:=⟨_,rfl⟩
         obtain⟨X,hX⟩:∃X,X=flatK .i64 (t++[(qa,qc)]):=⟨_,rfl⟩
         rw[←hm,←hX] at e5
         rw[←hm,←hX] at e4
         rw[←hm] at hml
         rw[e3,←hm]
         have HM:=Lib.hid (And.intro hM (And.intro e2 (And.intro hm hX)))
         clear hM e2 e3 hs hp hm ZK hX hown
         have hg:=(e5.lt g rfl).2
         by_cases hle:lo≤qc
         · have g1 : wr.cell? ⟨g, m * 2 + 1, none⟩ = some (.int .i64 qc) := by
            rw[e5.cellAt _ (by omega)];exact e4
           go_wp2_with fail
           have hw1:IntKind.i64.wrap (m:Int)=(m:Int):=pK (by omega)
           have hw3:(0:Int)≤(m:Int):=by omega
           have hw4:(m:Int)<(m:Int)+1:=by omega
           go_quiet (fail)
           have f1:=dn (e5.alloc (.cells #[.int .i64 lo,.int .i64 hi'] 213)) nq
           have f2:Below B w2 ((wr.alloc (.cells #[.int .i64 lo,.int .i64 hi'] 213)).drewN nq):=below_drewN (hbel.alloc F5 _) nq
           have f3:((wr.alloc (.cells #[.int .i64 lo,.int .i64 hi'] 213)).drewN nq).cell? ⟨wr.heap.size,0,none⟩=some (.int .i64 lo):=by simp
           have f4:((wr.alloc (.cells #[.int .i64 lo,.int .i64 hi'] 213)).drewN nq).cell? ⟨wr.heap.size,1,none⟩=some (.int .i64 hi'):=by simp
           generalize hwq:(wr.alloc (.cells #[.int .i64 lo,.int .i64 hi'] 213)).drewN nq=wq at f1 f2 f3 f4 ⊢
           have f5:B≤wq.heap.size:=by rw[hB];exact f2.size
           have f6:wq.cell? ⟨g,m*2+1,none⟩=some (.int .i64 qc):=by
            rw[f1.cellAt _ (by omega)];exact e4
           have f7:=f1.frozenAt (m*2+1)
           clear hwq hbel e5 g1
           go_wp2_with fail
           have hw1:IntKind.i64.wrap (m:Int)=(m:Int):=pK (by omega)
           refine rT 14 (by kernel_rfl) (by kernel_rfl) ?_
           simp only[List.take_succ_cons,List.take_zero,List.drop_succ_cons,List.drop_zero]
           repeat (first|still_step)
           refine wpStill_nil ?_
           go_wp2_with fail
           have hs1:=(f1.stored (m*2+1) (.int .i64 (max qc hi'))).1
           have hB3:Below B w2 (wq.setCell ⟨g,m*2+1,none⟩ (.int .i64 (max qc hi'))).drew:=(f2.setCell (p:=⟨g,m*2+1,none⟩) (f1.lt g rfl).1 _).drew
           have H1:=Lib.hid (And.intro hs1.drew hB3)
           clear hs1 hB3 f1 f2 f3 f4 f6 f7
           go_roundw
           case rel=>
            refine⟨k+1,by omega,by go_num,?_,H1.out.2⟩
            have h:=H1.out.1
            obtain⟨_,k2,k3,k4⟩:=HM.out
            have e9:(t++[(qa,max qc hi')]).length=m+1:=by simp;omega
            have e10:X.set (m*2+1) (.int .i64 (max qc hi'))=flatK .i64 (t++[(qa,max qc hi')]):=by rw[k4,k3];exact Bo .i64 t (qa,qc) _
            rw[Hs.out,k2,if_pos hle,e9,←e10]
            exact h
           case measure=>simp[intOf]<;>omega
         · have g1 : wr.cell? ⟨g, m * 2 + 1, none⟩ = some (.int .i64 qc) := by
            rw[e5.cellAt _ (by omega)];exact e4
           go_wp2_with fail
           have hw1:IntKind.i64.wrap (m:Int)=(m:Int):=pK (by omega)
           have hw3:(0:Int)≤(m:Int):=by omega
           have hw4:(m:Int)<(m:Int)+1:=by omega
           go_quiet (fail)
           have f1:=dn (e5.alloc (.cells #[.int .i64 lo,.int .i64 hi'] 213)) nq
           have f2:Below B w2 ((wr.alloc (.cells #[.int .i64 lo,.int .i64 hi'] 213)).drewN nq):=below_drewN (hbel.alloc F5 _) nq
           have f3:((wr.alloc (.cells #[.int .i64 lo,.int .i64 hi'] 213)).drewN nq).cell? ⟨wr.heap.size,0,none⟩=some (.int .i64 lo):=by simp
           have f4:((wr.alloc (.cells #[.int .i64 lo,.int .i64 hi'] 213)).drewN nq).cell? ⟨wr.heap.size,1,none⟩=some (.int .i64 hi'):=by simp
           generalize hwq:(wr.alloc (.cells #[.int .i64 lo,.int .i64 hi'] 213)).drewN nq=wq at f1 f2 f3 f4 ⊢
           have f5:B≤wq.heap.size:=by rw[hB];exact f2.size
           have UU:X.length=(m+1)*2:=f1.1
           clear hwq hbel e5 g1 hw1 hw3 hw4
           go_wp2_with (at_builtin;refine bB _ rfl _ _ 211 rfl B 213 i0 (.agg #[.int .i64 0,.int .i64 0]) 2 16 Tryz.underlying211 hi hz0 hz1 hz2 rfl (by decide) _ _ _ rfl (f1.alloc _) _ 1 [.int .i64 lo,.int .i64 hi'] rfl (iW _ _ _ _ wq.heap.size rfl) rfl (by simp[Value.oneCell']) (by unfold maxLen;omega) (by omega) (by simp;omega) ?_;intro v' w3 hown3 hgrow3)
           have hB3:Below B w2 w3:=(f2.alloc f5 _).grown hgrow3 (by simp;omega) (fun j hj=>(f1.lt j hj).1)
           have H1:=Lib.hid (And.intro hown3 hB3)
           clear hown3 hgrow3 hB3 f1 f2 f3 f4 UU
           go_roundw
           case rel=>
            refine⟨k+1,by omega,by go_num,?_,H1.out.2⟩
            have h:=H1.out.1
            obtain⟨_,k2,k3,k4⟩:=HM.out
            rw[Hs.out,k2,if_neg (Int.not_le.2 hle),show t++[(qa,qc),(lo,hi')]=(t++[(qa,qc)])++[(lo,hi')] by simp,List.length_append,fH]
            have e9:(t++[(qa,qc)]).length+[(lo,hi')].length=m+1+1:=by simp;omega
            rw[e9,←k4]
            exact h
           case measure=>simp[intOf]<;>omega
     · have hkn : k = d.length := by omega
       subst hkn
       rw[List.take_length,H0.out.1] at hown
       go_wp2
       go_ret
       exact⟨_,rfl,ji hown (by rw[hB];exact H0.out.2.1.size),ak H0.out.2.1 (by rw[←hB];exact hbel)⟩
end Go.Proofs.YtfkmajjgkdjncaaGreatDoor.Rn
