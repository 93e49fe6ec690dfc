/- Merged. -/
import Derived.Test.YtfkmajjgkdjncaaGreatDoorPairRow
import Derived.Test.YtfkmajjgkdjncaaGreatDoorRuneMath4
import Derived.Deep.AppendLies
import Derived.Shelf.SlSortCmp.NoneTotal
import Derived.Sort.Grow
import Derived.Test.YtfkmajjgkdjncaaGreatDoorStill
import Derived.Laws.OwnMore
import Derived.Test.YtfkmajjgkdjncaaGreatDoorClsEl
set_option linter.unusedVariables false
set_option linter.unusedSimpArgs false
set_option maxHeartbeats 4000000
set_option maxRecDepth 1000000
namespace Go.Proofs.YtfkmajjgkdjncaaGreatDoor
open Go.RowKit Ru
def gX (x:Int×Int):List Value:=[.int .i32 x.1,.int .i32 x.2]
theorem Bv (l:List (Int×Int)):(Sort.flatK gX 2 l.toArray).toList=flatK .i32 l:=by
 apply List.ext_getElem?
 intro j
 by_cases hj:j<l.length*2
 · have h1 : j / 2 < l.length := by omega
   have e0:(Sort.flatK gX 2 l.toArray)[j]! = (gX l.toArray[j / 2]!)[j % 2]!:=Sort.get_flatK _ _ _ _ (by simpa using hj)
   have hsz:j<(Sort.flatK gX 2 l.toArray).size:=by simpa using hj
   have e1:(Sort.flatK gX 2 l.toArray).toList[j]? = some ((Sort.flatK gX 2 l.toArray)[j]!):=by
    rw[Array.getElem?_toList,getElem!_pos _ j hsz,Array.getElem?_eq_getElem hsz]
   obtain⟨c1,c2⟩:=qx .i32 l (j / 2) h1
   have e2:l.toArray[j / 2]! = l.getD (j / 2) (0,0):=by
    rw[getElem!_pos _ _ (by simpa using h1)];simp[List.getD,List.getElem?_eq_getElem h1]
   rw[e1,e0,e2]
   rcases(show j % 2=0∨j % 2=1 by omega) with h|h
   · rw[show j=j / 2*2 by omega,c1,←show j=j / 2*2 by omega,h];rfl
   · rw[show j=j / 2*2+1 by omega,c2,←show j=j / 2*2+1 by omega,h];rfl
 · rw[List.getElem?_eq_none (by simp;omega),List.getElem?_eq_none (by rw[mh];omega)]
theorem FX {w:World} {g:Nat} {cur:Array Value} {e:TypeId} {l:List (Int×Int)} (hb:w.heap[g]? = some (.cells cur e (0,0))) (ht:cur.toList.take (l.length*2)=flatK .i32 l):Sort.HoldsK gX 2 w g 0 l.toArray:=by
 intro j hj
 have hj':j<l.length*2:=by simpa using hj
 refine⟨?_,by simp[World.frozen?,hb]⟩
 have h1:(cur.toList.take (l.length*2))[j]? = (flatK .i32 l)[j]?:=by rw[ht]
 rw[List.getElem?_take_of_lt hj',←Bv,Array.getElem?_toList,Array.getElem?_toList] at h1
 simp only[World.cell?,hb,Nat.zero_add]
 simp only[Option.isSome_none,Bool.false_eq_true,if_false]
 rw[h1,Array.getElem?_eq_getElem hj,getElem!_pos _ j hj];rfl
theorem tK {w:World} {g n:Nat} {os:Array Obj} {cur:Array Value} {e:TypeId} {fr:Nat×Nat} (d:Array (Int×Int)) (hb:w.heap[g]? = some (.cells cur e fr)) :
 (sortWorldK gX 2 w g 0 n d os).heap[g]? = some (.cells (Sort.putCells id 0 (Sort.flatK gX 2 d) cur) e fr):=by
 have hlt:=(Array.getElem?_eq_some_iff.1 hb).1
 unfold sortWorldK
 rw[Sort.heap_grow_old _ _ (by simpa [Sort.putRowK,Sort.putRow,Sort.mapBlock,Sort.ahead] using hlt)]
 simp[Sort.putRowK,Sort.putRow,Sort.mapBlock,Sort.ahead,Array.getElem?_modify,hb,Sort.onCells]
theorem pG {w:World} {g n:Nat} {os:Array Obj} (d:Array (Int×Int)):w.grownBy (sortWorldK gX 2 w g 0 n d os) (some g):=by
 refine⟨rfl,rfl,rfl,by simp[sortWorldK,Sort.grow,Sort.putRowK,Sort.putRow,Sort.mapBlock,Sort.ahead],fun k hk hne=>?_⟩
 unfold sortWorldK
 rw[Sort.heap_grow_old _ _ (by simpa [Sort.putRowK,Sort.putRow,Sort.mapBlock,Sort.ahead] using hk)]
 have:g≠k:=fun e=>hne (by rw[e])
 simp[Sort.putRowK,Sort.putRow,Sort.mapBlock,Sort.ahead,Array.getElem?_modify,this]
theorem pI {w:World} {base g cap n:Nat} {e:TypeId} {os:Array Obj} {cur:Array Value} {l:List (Int×Int)} {d:Array (Int×Int)} (hl:d.size=l.length) (hbase:base≤g) (hb:w.heap[g]? = some (.cells cur e (0,0)))
 (h1:l.length≤cap) (h2:cap≤maxLen) (h3:cur.size=cap*2) :
 (sortWorldK gX 2 w g 0 n d os).ownsRow base e 2 (.slice (some ⟨g,0,none⟩) l.length cap) l.length (flatK .i32 d.toList):=by
 refine⟨by rw[mh];simp[hl],.inr ⟨g,cap,_,rfl,hbase,tK d hb,h1,h2,by simp[Sort.putCells,h3],?_⟩⟩
 have e0:flatK .i32 d.toList=(Sort.flatK gX 2 d).toList:=by rw[←Bv]
 rw[e0]
 apply List.ext_getElem?
 intro j
 by_cases hj:j<l.length*2
 · have hj2 : j < d.size * 2 := by omega
   rw[List.getElem?_take_of_lt hj,Array.getElem?_toList,Array.getElem?_toList]
   simp[Sort.putCells,hj2,show j<cur.size by omega]
 · rw[List.getElem?_take_eq_none (by omega),List.getElem?_eq_none (by simp;omega)]
theorem CZ {l:List (Int×Int)} {d:Array (Int×Int)} (h:Sort.PermIn 0 l.toArray.size l.toArray d):d.size=l.length∧d.toList.Perm l:=by
 obtain⟨h1,_,h3⟩:=h
 have hs:d.size=l.length:=by simpa using h1
 refine⟨hs,?_⟩
 have e1:d.extract 0 l.toArray.size=d:=by
  rw[show l.toArray.size=d.size by simpa using hs.symm];simp
 have e2:l.toArray.extract 0 l.toArray.size=l.toArray:=by simp
 rw[e1,e2] at h3
 simpa using h3
open Go.RowKit Ru Go.Sort
def j5 (x y:Int):Int:=if x<y then -1 else if y<x then 1 else 0
theorem Aj {k:IntKind} {a b:Int} (h:a=b):Ending.returned (.int k a)=.returned (.int k b):=by rw[h]
theorem mG (x : Int) (w : World) : Calls Tryz.prog 230 #[.int .i32 x] w fun e w' => e = .returned (.bool false) ∧ w = w' := by
 go_enter Tryz.func230,Tryz.ntmps230
 go_wp2
 go_ret
 exact⟨dI (by simp),rfl⟩
theorem uV (x y : Int) (w : World) : Calls Tryz.prog 208 #[.int .i32 x, .int .i32 y] w fun e w' => e = .returned (.int .i64 (j5 x y)) ∧ w = w' := by
 go_enter Tryz.func208,Tryz.ntmps208
 by_cases h1:x<y
 · go_wp2_with (go_at_call 230; refine (mG _ _).mono ?_; rintro e w' ⟨rfl, rfl⟩)
   go_ret
   exact⟨Aj (by unfold j5;(repeat' split)<;>omega),rfl⟩
 · by_cases h2 : y < x
   · go_wp2_with (go_at_call 230; refine (mG _ _).mono ?_; rintro e w' ⟨rfl, rfl⟩)
     go_ret
     exact⟨Aj (by unfold j5;(repeat' split)<;>omega),rfl⟩
   · go_wp2_with (go_at_call 230; refine (mG _ _).mono ?_; rintro e w' ⟨rfl, rfl⟩)
     go_ret
     exact⟨Aj (by unfold j5;(repeat' split)<;>omega),rfl⟩
theorem IZ (x y : Int × Int) (w : World) : Calls Tryz.prog 207 #[.agg #[.int .i32 x.1, .int .i32 x.2], .agg #[.int .i32 y.1, .int .i32 y.2]] w fun e w' => e = .returned (.int .i64 (j5 x.1 y.1)) ∧ ∃ q os, w' = grow (w.drewN q) os := by
 go_enter Tryz.func207,Tryz.ntmps207
 go_wp2_with (go_at_call 208;refine(uV _ _ _).mono ?_;rintro e w' ⟨rfl,rfl⟩)
 go_ret
 exact⟨rfl,0,_,by rw[alloc_eq_grow,alloc_eq_grow,grow_grow];rfl⟩
theorem pJ (x y : Int × Int) : ltOf (fun x y : Int × Int => j5 x.1 y.1) x y = decide (x.1 < y.1) := by
 unfold ltOf j5
 by_cases h1:x.1<y.1
 · simp[h1]
 · by_cases h2:y.1<x.1<;>simp[h1,h2]
theorem C8 : Sort.SWO (ltOf fun x y : Int × Int => j5 x.1 y.1) where
 irrefl x:=by rw[pJ];simp
 trans x y z h1 h2:=by rw[pJ] at *;simp at *;omega
 ntrans x y z h1 h2:=by rw[pJ] at *;simp at *;omega
theorem xZ {d : Array (Int × Int)} {n : Nat} (hn : d.size = n) (h : Sort.SortedIn (ltOf fun x y : Int × Int => j5 x.1 y.1) 0 n d) : Sorted d.toList := by
 intro i j hij hj
 have hj':j<d.size:=by simpa using hj
 have h1:=h i j (Nat.zero_le _) hij (by omega)
 rw[pJ] at h1
 have e1:d.toList.getD i (0,0)=d[i]!:=by rw[getElem!_pos d i (by omega)];simp[List.getD,show i<d.size by omega]
 have e2:d.toList.getD j (0,0)=d[j]!:=by rw[getElem!_pos d j hj'];simp[List.getD,hj']
 rw[e1,e2]
 simp at h1;omega
theorem KQ (l:List Pc) (v:Value) (base:Nat) (w:World) (hown:w.ownsRow base 79 2 v l.length (flatK .i32 l)) (hn:l.length≤100000) :
 Calls Tryz.prog 206 #[v,.func (.func 207) #[] #[]] w fun e w'=>e=.returned (.tuple #[])∧∃d:List Pc,d.Perm l∧Sorted d∧w'.ownsRow base 79 2 v l.length (flatK .i32 d)∧w.grownBy w' v.ownBlock:=by
 rcases hown.2 with⟨rfl,h0⟩|⟨g,cap,cur,rfl,hbase,hb,h1,h2,h3,h4⟩
 · have hcon := AnyF.slices_SortFunc_none (P := Tryz.prog) Tryz.QH none 0 (.func (.func 207) #[] #[]) w
   change Calls Tryz.prog 206 _ _ _ at hcon
   refine hcon.mono fun e w' ⟨he,hw⟩=>?_
   subst hw
   have hl:l=[]:=List.eq_nil_of_length_eq_zero h0
   subst hl
   exact⟨he,[],List.Perm.refl _,fun i j _ hj=>by simp at hj,hown,World.grownBy.refl _ _⟩
 · have eg : ∀ args w, (callFunc 207 args).run Tryz.prog w = .ok (.enter 207 args) w := enters_of Tryz.func207 (by kernel_rfl) rfl
   have hcon:=AnyQ.slices_SortFunc Tryz.QH 2 Tryz.isAgg79 Tryz.sizeOf79 gX (fun _=>rfl) (fun x v hv=>by simp[gX] at hv;rcases hv with rfl|rfl<;>rfl) (fun x y=>j5 x.1 y.1) C8 207 #[] g 0 cap l.toArray w eg (fun _ _ _ _ x y=>IZ x y _) (FX hb h4) (Array.getElem?_eq_some_iff.1 hb).1 (by simp;omega)
   change Calls Tryz.prog 206 _ _ _ at hcon
   have e:l.toArray.size=l.length:=by simp
   rw[e] at hcon
   refine hcon.mono fun e w' ⟨he,d',n,os,hp,hs,hw⟩=>?_
   subst hw
   obtain⟨p1,p2⟩:=CZ (by simpa using hp)
   exact⟨he,d'.toList,p2,xZ p1 hs,pI p1 hbase hb h1 h2 h3,pG d'⟩
theorem mD:∃i,Tryz.prog.info? 79=some i∧i.zero=some (.agg #[.int .i32 0,.int .i32 0])∧i.size=2∧i.bytes=8:=info_parts (by kernel_rfl)
theorem Row.form {w:World} {v:Value} {n:Nat} {cs:List Value} (h:Row w v n cs):∃o c,v=.slice o n c:=by obtain⟨o,c,e,_⟩:=h;exact⟨o,c,e⟩
theorem pK {x:Int} (h : -9223372036854775808≤x∧x≤9223372036854775807):IntKind.i64.wrap x=x:=IntWalk.i64_in _ h
theorem iW (w:World) (u v:Value) (e:TypeId) (B:Nat) (hB:w.heap.size=B):Row (w.alloc (.cells #[u,v] e)) (.slice (some ⟨B,0,none⟩) 1 1) 1 [u,v]:=by
 subst hB
 have h1:=World.ownsRow_lit (e:=e) (base:=w.heap.size) (size:=2) w #[u,v] 1 (Nat.le_refl _) (by decide) (by simp)
 simpa using Row.owned h1
theorem dn {w:World} {base:Nat} {e:TypeId} {size n:Nat} {v:Value} {xs:List Value} (h:w.ownsRow base e size v n xs) (q:Nat):(w.drewN q).ownsRow base e size v n xs:=bS h (below_drewN (Below.refl _ _) q)
namespace Ru
def FY (r:Int):Int:=if r=55295 then 57344 else r+1
def JH (r:Int):Int:=if r=57344 then 55295 else r-1
theorem JI {p:Int} (h:0≤p):FY (bW p)=bW (p+1):=by unfold FY bW;repeat' split<;>omega
theorem SL {p:Int} (h:1≤p):JH (bW p)=bW (p-1):=by unfold JH bW;repeat' split<;>omega
def FN (l:List Pc):Prop:=∀x∈l,x.1≤x.2∧fM x.1=true∧fM x.2=true
theorem FZ {x:Pc} (h:x.1≤x.2∧fM x.1=true∧fM x.2=true):bJ x=(aA x.1,aA x.2+1)∧aA x.1<aA x.2+1∧bW (aA x.1)=x.1∧bW (aA x.2)=x.2∧0≤aA x.1∧aA x.2+1≤1112064:=by
 have h1:=Ak h.1
 have h2:=mH x.1
 have h3:=Al h.2.2
 exact⟨by unfold bJ;rw[if_pos h.2.2],by omega,zh h.2.1,zh h.2.2,h2.1,by omega⟩
theorem SN {l:List Pc} (h:FN l):raw l=l.map bJ:=by
 unfold raw
 rw[List.filter_eq_self]
 intro q hq
 obtain⟨x,hx,rfl⟩:=List.mem_map.1 hq
 have:=FZ (h x hx)
 rw[this.1]
 simp;omega
theorem DU {d:List Pc} (hs:Sorted d):Sorted (d.map bJ):=by
 intro i j hij hj
 rw[List.length_map] at hj
 have h:=hs i j hij hj
 have e:∀i,i<d.length→(d.map bJ).getD i (0,0)=bJ (d.getD i (0,0)):=by
  intro i hi;simp[List.getD,List.getElem?_eq_getElem hi]
 rw[e i (by omega),e j hj]
 exact Ak h
theorem KR {l d:List Pc} (hl:FN l) (hp:d.Perm l) (hs:Sorted d):aY (merge (d.map bJ))=nE l:=by
 unfold nE
 rw[DV l (d.map bJ) (DU hs) (fun q=>by rw[SN hl];exact(hp.map bJ).mem_iff)]
theorem j6 (a b:List Pc):aY (a++b)=aY a++aY b:=by simp[aY]
theorem iB (P:List Pc):(aY P).length=P.length:=by simp[aY]
theorem OQ {d:List Pc} (hs:Sorted d) (k:Nat):Sorted (d.take k):=by
 intro i j hij hj
 rw[List.length_take] at hj
 have:=hs i j hij (by omega)
 simpa [List.getD,List.getElem?_take,show i<k by omega,show j<k by omega] using this
theorem Mq {d:List Pc} (hd:FN d) (hs:Sorted d) (k:Nat):∀q∈merge ((d.take k).map bJ),0≤q.1∧q.1<q.2∧q.2≤1112064:=by
 have h1:=Am (Sorted.nu (DU (OQ hs k))) (by
  intro q hq
  obtain⟨x,hx,rfl⟩:=List.mem_map.1 hq
  have:=FZ (hd x (List.mem_of_mem_take hx))
  rw[this.1];simp only;omega)
 intro q hq
 have:=h1.1.pos q hq
 exact⟨by omega,this.2,h1.2.1 q hq⟩
end Ru
theorem yg (r : Int) (w : World) (h : 0 ≤ r ∧ r ≤ 1114111) : Calls Tryz.prog 209 #[.int .i32 r] w fun e w' => e = .returned (.int .i32 (FY r)) ∧ w' = w := by
 by_cases h1:r=55295
 · subst h1
   go_enter Tryz.func209,Tryz.ntmps209
   go_wp2
   go_ret
   exact⟨rfl,rfl⟩
 · have t : (r == 55295) = false := by simpa using h1
   have e:FY r=r+1:=by unfold FY;rw[if_neg h1]
   have E:=Lib.hid e
   clear e h1
   go_enter Tryz.func209,Tryz.ntmps209
   go_wp2
   go_ret
   exact⟨by rw[E.out];rfl,rfl⟩
theorem I4 (r : Int) (w : World) (h : 0 ≤ r ∧ r ≤ 1114111) : Calls Tryz.prog 210 #[.int .i32 r] w fun e w' => e = .returned (.int .i32 (JH r)) ∧ w' = w := by
 by_cases h1:r=57344
 · subst h1
   go_enter Tryz.func210,Tryz.ntmps210
   go_wp2
   go_ret
   exact⟨rfl,rfl⟩
 · have t : (r == 57344) = false := by simpa using h1
   have e:JH r=r-1:=by unfold JH;rw[if_neg h1]
   have E:=Lib.hid e
   clear e h1
   go_enter Tryz.func210,Tryz.ntmps210
   go_wp2
   go_ret
   exact⟨by rw[E.out];rfl,rfl⟩
def OT (l:List Pc) (v:Value) (w:World) (e:Ending) (w':World):Prop:=
 ∃u,e=.returned u∧w'.ownsRow w.heap.size 79 2 u (nE l).length (flatK .i32 (nE l))∧∀b,b≤w.heap.size→(∀j,v.ownBlock=some j→b≤j)→Below b w w'
theorem zG (l:List Pc) (v:Value) (base:Nat) (w:World) (hown:w.ownsRow base 79 2 v l.length (flatK .i32 l)) (hn:l.length≤100000) (hok:FN l) :
 Calls Tryz.prog 198 #[v] w (OT l v w):=by
 obtain⟨i0,hi,hz0,hz1,hz2⟩:=mD
 have HO:=Lib.hid hown
 obtain⟨ov,cv,rfl⟩:=au hown
 clear hown
 go_enter Tryz.func198,Tryz.ntmps198
 go_wp2_with fail
 refine(KQ l _ base _ HO.out hn).mono ?_
 rintro e w2 ⟨rfl,d,hperm,hsort,hown2,hg2⟩
 have hdl:d.length=l.length:=hperm.length_eq
 have UQ:FN d:=fun x hx=>hok x (hperm.mem_iff.1 hx)
 have hfin:=KR hok hperm hsort
 have H0:=Lib.hid (And.intro hfin (And.intro hg2 (And.intro UQ hsort)))
 rw[←hdl] at hown2 hn ⊢
 have HR:=Lib.hid (Row.owned hown2)
 clear hown2 hfin hg2 UQ hsort hperm hdl hok HO
 go_wp2_with fail
 obtain⟨B,hB⟩:∃B,B=w2.heap.size:=⟨_,rfl⟩
 have HB:=Lib.hid hB
 have hBw:=hB
 go_loopw [3, 11] (fun u i wr => ∃ k : Nat, k ≤ d.length ∧ i = .int .i64 k ∧ wr.ownsRow B 79 2 u (aY (merge ((d.take k).map bJ))).length (flatK .i32 (aY (merge ((d.take k).map bJ)))) ∧ Below B w2 wr)
  (fun _ i _=>d.length-(intOf i).toNat)
 case atStart=>exact⟨0,Nat.zero_le _,rfl,World.ownsRow_nil _ _ _ _,Below.refl _ _⟩
 case round=>
  obtain⟨k,hk,rfl,hown,hbel⟩:=hrel
  have F5:B≤wr.heap.size:=by rw[hB];exact hbel.size
  by_cases hk2:k<d.length
  · obtain ⟨b, off, cap', e, hlt⟩ := HR.out.head (by omega)
    simp only[Value.slice.injEq,true_and] at e
    obtain⟨rfl,rfl⟩:=e
    obtain⟨_,c1,c2⟩:=HR.out.pair hk2 rfl
    have OU:b<B:=by rw[hB];exact hlt
    rw[←hbel.cell OU] at c1 c2
    have hs:(d.take (k+1)).map bJ=(d.take k).map bJ++[bJ (d.getD k (0,0))]:=by rw[take_one d (0,0) k hk2];simp
    obtain⟨x,hx⟩:∃x,x=d.getD k (0,0):=⟨_,rfl⟩
    have hxo:=FZ (H0.out.2.2.1 x (by rw[hx];simp[List.getD,List.getElem?_eq_getElem hk2]))
    have hxr:0≤x.1∧x.1≤1114111∧0≤x.2∧x.2≤1114111:=by
     have:=H0.out.2.2.1 x (by rw[hx];simp[List.getD,List.getElem?_eq_getElem hk2])
     have h1:=(jZ _).1 this.2.1;have h2:=(jZ _).1 this.2.2;omega
    rw[←hx] at c1 c2 hs
    have hml:=qP ((d.take k).map bJ)
    rw[List.length_map,List.length_take] at hml
    have hpos:=Mq H0.out.2.2.1 H0.out.2.2.2 k
    have Hs:=Lib.hid hs
    obtain⟨A,hA⟩:∃A,A=(d.take k).map bJ:=⟨_,rfl⟩
    have Jj:A=[]→k=0:=by intro h;rw[hA] at h;have:=congrArg List.length h;rw[List.length_map,List.length_take,List.length_nil] at this;omega
    rw[←hA] at hown hml hpos Hs
    obtain⟨lo,hi'⟩:=x
    simp only at c1 c2 hxo hxr
    have HX:=Lib.hid hxo
    clear hxo hs hx
    by_cases hk0:k=0
    · have Y9 : A = [] := by rw [hA, hk0]; rfl
      subst Y9
      have HK:=Lib.hid hk0
      clear hk0 hA Jj hpos
      obtain⟨o7,c7,rfl⟩:=(Row.owned hown).form
      have hnil:(aY (merge ([]:List Pc))).length=0:=rfl
      rw[hnil] at hown ⊢
      go_wp2_with fail
      go_quiet (fail)
      have f1:=dn (hown.alloc (.cells #[.int .i32 lo,.int .i32 hi'] 79)) nq
      have f2:Below B w2 ((wr.alloc (.cells #[.int .i32 lo,.int .i32 hi'] 79)).drewN nq):=below_drewN (hbel.alloc F5 _) nq
      have f3:((wr.alloc (.cells #[.int .i32 lo,.int .i32 hi'] 79)).drewN nq).cell? ⟨wr.heap.size,0,none⟩=some (.int .i32 lo):=by simp
      have f4:((wr.alloc (.cells #[.int .i32 lo,.int .i32 hi'] 79)).drewN nq).cell? ⟨wr.heap.size,1,none⟩=some (.int .i32 hi'):=by simp
      generalize hwq:(wr.alloc (.cells #[.int .i32 lo,.int .i32 hi'] 79)).drewN nq=wq at f1 f2 f3 f4 ⊢
      have f5:B≤wq.heap.size:=by rw[hB];exact f2.size
      clear hwq hown hbel
      go_wp2_with (at_builtin;go_loud (refine bB _ rfl _ _ 32 rfl B 79 i0 (.agg #[.int .i32 0,.int .i32 0]) 2 8 Tryz.underlying32 hi hz0 hz1 hz2 rfl (by decide) _ _ _ rfl (f1.alloc _) _ 1 [.int .i32 lo,.int .i32 hi'] rfl (iW _ _ _ _ wq.heap.size rfl) rfl (by simp[Value.oneCell']) (by unfold maxLen;omega) (by omega) (by simp;omega) ?_);intro v' w3 hown3 hgrow3)
      have hB3:Below B w2 w3:=(f2.alloc f5 _).grown hgrow3 (by simp;omega) (fun j hj=>(f1.lt j hj).1)
      have H1:=Lib.hid (And.intro hown3 hB3)
      clear hown3 hgrow3 hB3 f1 f2 f3 f4
      go_roundw
      case rel=>
       refine⟨k+1,by omega,by go_num,?_,H1.out.2⟩
       have h:=H1.out.1
       have e9:aY (merge ([]++[bJ (lo,hi')]))=[(lo,hi')]:=by
        obtain⟨q1,q2,q3,q4,_⟩:=HX.out
        rw[q1];show[(bW (aA lo),bW (aA hi'+1-1))]=_
        rw[show aA hi'+1-1=aA hi' by omega,q3,q4]
       rw[Hs.out,e9]
       exact h
      case measure=>simp[intOf]<;>omega
    · have hne : A ≠ [] := fun h => hk0 (Jj h)
      obtain⟨t,q,e1,e2⟩:=Bw A (bJ (lo,hi')) hne
      obtain⟨qa,qc⟩:=q
      have hq:=hpos (qa,qc) (by rw[e1];simp)
      simp only at hq
      rw[e1] at hown hml
      have e3:(aY (t++[(qa,qc)])).length=t.length+1:=by rw[iB];simp
      obtain⟨sq,xq⟩:∃sq,sq=bW (qc-1):=⟨_,rfl⟩
      have hsr:=qM (p:=qc-1) (by omega) (by omega)
      rw[←xq] at hsr
      obtain⟨bq,hbq⟩:∃bq,bq=bW qc:=⟨_,rfl⟩
      have hbs:FY sq=bq:=by rw[xq,JI (by omega),hbq];congr 1;omega
      have hbr:0≤bq∧bq≤1114112:=by rw[hbq];unfold bW;split<;>omega
      have e4:(flatK .i32 (aY (t++[(qa,qc)])))[t.length*2+1]? = some (.int .i32 sq):=by
       have:=(qx .i32 (aY (t++[(qa,qc)])) t.length (by rw[e3];omega)).2
       rw[j6,show t.length=(aY t).length from(iB t).symm] at this
       rw[j6,show t.length=(aY t).length from(iB t).symm,xq]
       rw[this]
       congr 2
       show((aY t++[(bW qa,bW (qc-1))]).getD (aY t).length (0,0)).2=_
       rw[DL]
      have hcall:∀w,Calls Tryz.prog 209 #[.int .i32 sq] w fun e w'=>e=.returned (.int .i32 bq)∧w'=w:=fun w=>by have:=yg sq w hsr;rwa [hbs] at this
      obtain⟨g,c7,rfl⟩:=Joins.ownsRow_form hown (by rw[e3];omega)
      have e5:=hown
      rw[e3] at e5
      have hml:t.length+1≤k:=by rw[List.length_append] at hml;simp at hml;omega
      obtain⟨m,hm⟩:∃m,m=t.length:=⟨_,rfl⟩
      obtain⟨X,hX⟩:∃X,X=flatK .i32 (aY (t++[(qa,qc)])):=⟨_,rfl⟩
      rw[←hm,←hX] at e5
      rw[←hm,←hX] at e4
      rw[←hm] at hml
      rw[e3,←hm]
      have UR:lo≤bq↔(bJ (lo,hi')).1≤qc:=by
       obtain⟨q1,q2,q3,q4,_⟩:=HX.out
       rw[q1,hbq]
       show lo≤bW qc↔aA lo≤qc
       rw[tL (p:=aA lo),q3]
      have QS:max sq hi'=bW (max qc (bJ (lo,hi')).2-1):=by
       obtain⟨q1,q2,q3,q4,_⟩:=HX.out
       rw[q1,xq,←q4]
       simp only
       by_cases h:qc≤aA hi'+1
       · have h2 := (tL (p := qc - 1) (q := aA hi')).1 (by omega)
         rw[q4] at h2 ⊢
         rw[show max qc (aA hi'+1)-1=aA hi' by omega,q4];omega
       · have h2 := (tL (p := aA hi') (q := qc - 1)).1 (by omega)
         rw[q4] at h2 ⊢
         rw[show max qc (aA hi'+1)-1=qc-1 by omega];omega
      have HM:=Lib.hid (And.intro e2 (And.intro hm (And.intro hX (And.intro UR (And.intro QS xq)))))
      have HC:=Lib.hid hcall
      clear e1 e2 e3 hm hX hown hA Jj hpos hne xq hbq hbs UR QS hcall hq
      have hg:=(e5.lt g rfl).2
      by_cases hle:lo≤bq
      · have g1 : wr.cell? ⟨g, m * 2 + 1, none⟩ = some (.int .i32 sq) := by
         rw[e5.cellAt _ (by omega)];exact e4
        go_wp2_with fail
        have hw1:IntKind.i64.wrap (m:Int)=(m:Int):=pK (by omega)
        have hw3:(0:Int)≤(m:Int):=by omega
        have hw4:(m:Int)<(m:Int)+1:=by omega
        go_quiet ((go_at_call 209;exact Calls.quiet_of_same (HC.out _)))
        have f1:=dn (e5.alloc (.cells #[.int .i32 lo,.int .i32 hi'] 79)) nq
        have f2:Below B w2 ((wr.alloc (.cells #[.int .i32 lo,.int .i32 hi'] 79)).drewN nq):=below_drewN (hbel.alloc F5 _) nq
        have f3:((wr.alloc (.cells #[.int .i32 lo,.int .i32 hi'] 79)).drewN nq).cell? ⟨wr.heap.size,0,none⟩=some (.int .i32 lo):=by simp
        have f4:((wr.alloc (.cells #[.int .i32 lo,.int .i32 hi'] 79)).drewN nq).cell? ⟨wr.heap.size,1,none⟩=some (.int .i32 hi'):=by simp
        generalize hwq:(wr.alloc (.cells #[.int .i32 lo,.int .i32 hi'] 79)).drewN nq=wq at f1 f2 f3 f4 ⊢
        have f5:B≤wq.heap.size:=by rw[hB];exact f2.size
        have f6:wq.cell? ⟨g,m*2+1,none⟩=some (.int .i32 sq):=by
         rw[f1.cellAt _ (by omega)];exact e4
        have f7:=f1.frozenAt (m*2+1)
        clear hwq hbel e5 g1
        go_wp2_with fail
        have hw1:IntKind.i64.wrap (m:Int)=(m:Int):=pK (by omega)
        refine rT 14 (by kernel_rfl) (by kernel_rfl) ?_
        simp only[List.take_succ_cons,List.take_zero,List.drop_succ_cons,List.drop_zero]
        repeat (first|still_step)
        refine wpStill_nil ?_
        go_wp2_with fail
        have hs1:=(f1.stored (m*2+1) (.int .i32 (max sq hi'))).1
        have hB3:Below B w2 (wq.setCell ⟨g,m*2+1,none⟩ (.int .i32 (max sq hi'))).drew:=(f2.setCell (p:=⟨g,m*2+1,none⟩) (f1.lt g rfl).1 _).drew
        have H1:=Lib.hid (And.intro hs1.drew hB3)
        clear hs1 hB3 f1 f2 f3 f4 f6 f7
        go_roundw
        case rel=>
         refine⟨k+1,by omega,by go_num,?_,H1.out.2⟩
         have h:=H1.out.1
         obtain⟨k2,k3,k4,k5,k6,k7⟩:=HM.out
         have e9:(aY (t++[(qa,max qc (bJ (lo,hi')).2)])).length=m+1:=by rw[iB];simp;omega
         have e10:X.set (m*2+1) (.int .i32 (max sq hi'))=flatK .i32 (aY (t++[(qa,max qc (bJ (lo,hi')).2)])):=by
          rw[k4,k3,j6,j6,show t.length=(aY t).length from(iB t).symm]
          show(flatK .i32 (aY t++[(bW qa,bW (qc-1))])).set _ _=flatK .i32 (aY t++[(bW qa,bW (max qc (bJ (lo,hi')).2-1))])
          rw[Bo,k6]
         rw[Hs.out,k2,if_pos (k5.1 hle),e9,←e10]
         exact h
        case measure=>simp[intOf]<;>omega
      · have g1 : wr.cell? ⟨g, m * 2 + 1, none⟩ = some (.int .i32 sq) := by
         rw[e5.cellAt _ (by omega)];exact e4
        go_wp2_with fail
        have hw1:IntKind.i64.wrap (m:Int)=(m:Int):=pK (by omega)
        have hw3:(0:Int)≤(m:Int):=by omega
        have hw4:(m:Int)<(m:Int)+1:=by omega
        go_quiet ((go_at_call 209;exact Calls.quiet_of_same (HC.out _)))
        have f1:=dn (e5.alloc (.cells #[.int .i32 lo,.int .i32 hi'] 79)) nq
        have f2:Below B w2 ((wr.alloc (.cells #[.int .i32 lo,.int .i32 hi'] 79)).drewN nq):=below_drewN (hbel.alloc F5 _) nq
        have f3:((wr.alloc (.cells #[.int .i32 lo,.int .i32 hi'] 79)).drewN nq).cell? ⟨wr.heap.size,0,none⟩=some (.int .i32 lo):=by simp
        have f4:((wr.alloc (.cells #[.int .i32 lo,.int .i32 hi'] 79)).drewN nq).cell? ⟨wr.heap.size,1,none⟩=some (.int .i32 hi'):=by simp
        generalize hwq:(wr.alloc (.cells #[.int .i32 lo,.int .i32 hi'] 79)).drewN nq=wq at f1 f2 f3 f4 ⊢
        have f5:B≤wq.heap.size:=by rw[hB];exact f2.size
        have UU:X.length=(m+1)*2:=f1.1
        clear hwq hbel e5 g1 hw1 hw3 hw4
        go_wp2_with (at_builtin;refine bB _ rfl _ _ 32 rfl B 79 i0 (.agg #[.int .i32 0,.int .i32 0]) 2 8 Tryz.underlying32 hi hz0 hz1 hz2 rfl (by decide) _ _ _ rfl (f1.alloc _) _ 1 [.int .i32 lo,.int .i32 hi'] rfl (iW _ _ _ _ wq.heap.size rfl) rfl (by simp[Value.oneCell']) (by unfold maxLen;omega) (by omega) (by simp;omega) ?_;intro v' w3 hown3 hgrow3)
        have hB3:Below B w2 w3:=(f2.alloc f5 _).grown hgrow3 (by simp;omega) (fun j hj=>(f1.lt j hj).1)
        have H1:=Lib.hid (And.intro hown3 hB3)
        clear hown3 hgrow3 hB3 f1 f2 f3 f4 UU
        go_roundw
        case rel=>
         refine⟨k+1,by omega,by go_num,?_,H1.out.2⟩
         have h:=H1.out.1
         obtain⟨k2,k3,k4,k5,k6,k7⟩:=HM.out
         have e8:aY (t++[(qa,qc),bJ (lo,hi')])=aY (t++[(qa,qc)])++[(lo,hi')]:=by
          obtain⟨q1,q2,q3,q4,_⟩:=HX.out
          rw[show t++[(qa,qc),bJ (lo,hi')]=(t++[(qa,qc)])++[bJ (lo,hi')] by simp,j6]
          congr 1
          rw[q1];show[(bW (aA lo),bW (aA hi'+1-1))]=_
          rw[show aA hi'+1-1=aA hi' by omega,q3,q4]
         rw[Hs.out,k2,if_neg (fun h2=>by have:=k5.2 h2;omega),e8,List.length_append,fH]
         have e9:(aY (t++[(qa,qc)])).length+[(lo,hi')].length=m+1+1:=by rw[iB];simp;omega
         rw[e9,←k4]
         exact h
        case measure=>simp[intOf]<;>omega
  · have hkn : k = d.length := by omega
    subst hkn
    rw[List.take_length,H0.out.1] at hown
    have HW:=Lib.hid (And.intro hown hbel)
    clear hown hbel
    obtain⟨ou,cu,rfl⟩:=au HW.out.1
    go_wp2
    go_ret
    have hg2:=H0.out.2.1
    refine⟨_,rfl,ji HW.out.1 (by rw[hB];exact hg2.size),fun b hb hr=>?_⟩
    have h1:Below b w w2:=(Below.refl b w).grown hg2 hb hr
    exact h1.trans (HW.out.2.mono (by rw[hB];exact Nat.le_trans hb hg2.size))
namespace Ru
def dQ (s:List Pc×Int) (p:Pc):List Pc×Int:=(if s.2<p.1 then s.1++[(s.2,p.1)] else s.1,p.2)
def zV (s:List Pc×Int):List Pc:=if s.2<1112064 then s.1++[(s.2,1112064)] else s.1
theorem sN:∀(P:List Pc) (Q:List Pc) (f:Int),zV (P.foldl dQ (Q,f))=Q++eP f P
 | [], Q, f => by
  show(if f<1112064 then Q++[(f,1112064)] else Q)=Q++(if f<1112064 then [(f,1112064)] else [])
  by_cases h:f<1112064<;>simp[h]
 | p :: P, Q, f => by
  rw[List.foldl_cons,show dQ (Q,f) p=(if f<p.1 then Q++[(f,p.1)] else Q,p.2) from rfl,sN P]
  simp only[eP]
  split<;>simp
theorem qm:∀(P:List Pc) (s:List Pc×Int),(P.foldl dQ s).1.length≤s.1.length+P.length
 | [],s=>by simp
 | p :: P, s => by
  have:=qm P (dQ s p)
  have h:(dQ s p).1.length≤s.1.length+1:=by unfold dQ;simp only;split<;>simp
  simp only[List.foldl_cons,List.length_cons];omega
theorem xM (P:List Pc) (s:List Pc×Int) (k:Nat) (h:k<P.length):(P.take (k+1)).foldl dQ s=dQ ((P.take k).foldl dQ s) (P.getD k (0,0)):=by
 rw[take_one P (0,0) k h,List.foldl_append];rfl
theorem OV (P:List Pc) (k:Nat) (hp:∀q∈P,0≤q.1∧q.1<q.2∧q.2≤1112064):0≤((P.take k).foldl dQ ([],0)).2∧((P.take k).foldl dQ ([],0)).2≤1112064:=by
 rcases List.eq_nil_or_concat (P.take k) with h|⟨A,q,h⟩
 · rw[h];simp
 · rw [h, List.concat_eq_append, List.foldl_append]
   have hq:=hp q (List.mem_of_mem_take (by rw[h];simp:q∈P.take k))
   simp only[List.foldl_cons,List.foldl_nil,dQ]
   omega
theorem Ms {p q:Int}:p<q↔bW p<bW q:=by
 have:=tL (p:=q) (q:=p)
 omega
end Ru
def OW (P:List Pc) (w:World) (e:Ending) (w':World):Prop:=
 ∃u,e=.returned u∧w'.ownsRow w.heap.size 79 2 u (eP 0 P).length (flatK .i32 (aY (eP 0 P)))∧Below w.heap.size w w'
theorem OM (P:List Pc) (v:Value) (w:World) (hr:Row w v P.length (flatK .i32 (aY P))) (hn:P.length≤100000) (hp:∀q∈P,0≤q.1∧q.1<q.2∧q.2≤1112064) :
 Calls Tryz.prog 199 #[v] w (OW P w):=by
 obtain⟨i0,hi,hz0,hz1,hz2⟩:=mD
 have HR:=Lib.hid hr
 have HP:=Lib.hid hp
 obtain⟨o,cap,rfl,hcap,hmax,_⟩:=hr
 clear hp
 go_enter Tryz.func199,Tryz.ntmps199
 go_wp2_with fail
 go_loopw [3, 4, 9] (fun u f i wr => ∃ k : Nat, k ≤ P.length ∧ i = .int .i64 k ∧ f = .int .i32 (bW ((P.take k).foldl dQ ([], 0)).2) ∧ wr.ownsRow w.heap.size 79 2 u ((P.take k).foldl dQ ([], 0)).1.length (flatK .i32 (aY ((P.take k).foldl dQ ([], 0)).1)) ∧ Below w.heap.size w wr)
  (fun _ _ i _=>P.length-(intOf i).toNat)
 case atStart=>exact⟨0,Nat.zero_le _,rfl,rfl,World.ownsRow_nil _ _ _ _,Below.refl _ _⟩
 case round=>
  obtain⟨k,hk,rfl,rfl,hown,hbel⟩:=hrel
  obtain⟨wo,rfl⟩:∃wo:World,wo=wr:=⟨_,rfl⟩
  have hfl:=qm (P.take k) ([],0)
  have hfs:=OV P k HP.out
  rw[List.length_take,List.length_nil,Nat.zero_add] at hfl
  have hmin:=Nat.min_le_right k P.length
  by_cases hk2:k<P.length
  · obtain ⟨b, off, cap', e, hlt⟩ := HR.out.head (by omega)
    simp only[Value.slice.injEq,true_and] at e
    obtain⟨rfl,rfl⟩:=e
    obtain⟨_,c1,c2⟩:=HR.out.pair (by rw[iB];exact hk2) (iB P).symm
    have hg:(aY P).getD k (0,0)=(bW (P.getD k (0,0)).1,bW ((P.getD k (0,0)).2-1)):=by
     simp[aY,List.getD,List.getElem?_eq_getElem hk2]
    have hft:=xM P ([],0) k hk2
    have hq:=HP.out (P.getD k (0,0)) (by simp[List.getD,List.getElem?_eq_getElem hk2])
    rw[hg,←hbel.cell hlt] at c1 c2
    obtain⟨S,hS⟩:∃S,S=(P.take k).foldl dQ ([],0):=⟨_,rfl⟩
    rw[←hS] at hft hown hfl hfs ⊢
    obtain⟨Q,f⟩:=S
    obtain⟨p,hpp⟩:∃p,p=P.getD k (0,0):=⟨_,rfl⟩
    rw[←hpp] at hft hq c1 c2
    obtain⟨pa,pc⟩:=p
    simp only at hft hown hfl hfs hq c1 c2 ⊢
    have hlo:=qM (p:=pa) (by omega) (by omega)
    have hhi:=qM (p:=pc-1) (by omega) (by omega)
    have hlt2:=Ms (p:=f) (q:=pa)
    have UW:0≤bW f∧bW f≤1114112:=by unfold bW;split<;>omega
    have hb2:FY (bW (pc-1))=bW pc:=by rw[JI (by omega)];congr 1;omega
    have ha2:f<pa→JH (bW pa)=bW (pa-1):=fun h=>SL (by omega)
    obtain⟨lo,OX⟩:∃lo,lo=bW pa:=⟨_,rfl⟩
    obtain⟨hi',UY⟩:∃hi',hi'=bW (pc-1):=⟨_,rfl⟩
    obtain⟨fv,F6⟩:∃fv,fv=bW f:=⟨_,rfl⟩
    rw[←OX] at c1 hlo hlt2 ha2
    rw[←UY] at c2 hhi hb2
    rw[←F6] at hlt2 UW ⊢
    have hcb:=fun w=>yg hi' w hhi
    have hca:=fun w=>I4 lo w hlo
    rw[hb2] at hcb
    have X9:=Lib.hid hcb
    have HS:=Lib.hid (And.intro hS (And.intro hft (And.intro OX (And.intro F6 hbel))))
    clear hcb hb2 hS hft hpp OX UY F6 hg
    obtain⟨ou,cu,rfl⟩:=au hown
    by_cases hlt3:fv<lo
    · have hfa : f < pa := hlt2.2 hlt3
      rw[ha2 hfa] at hca
      have HCA:=Lib.hid hca
      clear hca ha2 hlt2
      have hz:=hbel.size
      go_wp2_with fail
      refine(HCA.out _).mono ?_
      rintro e w' ⟨rfl,rfl⟩
      go_wp2_with (at_builtin;refine bB _ rfl _ _ 32 rfl w.heap.size 79 i0 (.agg #[.int .i32 0,.int .i32 0]) 2 8 Tryz.underlying32 hi hz0 hz1 hz2 rfl (by decide) (.slice ou Q.length cu) Q.length (flatK .i32 (aY Q)) rfl ?hown _ 1 [.int .i32 fv,.int .i32 (bW (pa-1))] rfl ?hrow rfl ?hone ?h63 ?hby ?hbase ?_)
      case hown=>exact(hown.alloc _).alloc _
      case hrow=>exact iW _ _ _ _ _ (by simp)
      case hone=>simp[Value.oneCell']
      case h63=>unfold maxLen;omega
      case hby=>omega
      case hbase=>simp<;>omega
      intro v' w2 hown2 hgrow2
      have hx0:w2.cell? ⟨wo.heap.size,1,none⟩=some (.int .i32 hi'):=by
       have hb:=hgrow2.block wo.heap.size (by simp<;>omega) (fun e=>by have:=(hown.lt _ e.symm).2;omega)
       unfold World.cell?
       rw[hb,Below.heap_alloc _ _ _ (by simp),heap_alloc_new];rfl
      have hB2:Below w.heap.size w w2:=((hbel.alloc hz _).alloc (by simp<;>omega) _).grown hgrow2 (by simp<;>omega) (fun j hj=>(hown.lt j hj).1)
      have H2:=Lib.hid (And.intro hown2 hB2)
      obtain⟨o2,c2',rfl⟩:=au hown2
      clear hown2 hB2 hgrow2 hown hbel c1 c2
      go_wp2_with fail
      refine(X9.out _).mono ?_
      rintro e w' ⟨rfl,rfl⟩
      go_wp2
      go_roundw
      case rel=>
       obtain⟨k1,k2,k3,k4,k5⟩:=HS.out
       refine⟨k+1,by omega,by go_num,by rw[k2];rfl,?_,H2.out.2⟩
       rw[k2]
       simp only[dQ,if_pos hfa]
       have h:=H2.out.1
       rw[j6,fH,List.length_append,show(aY [(f,pa)])=[(fv,bW (pa-1))] by rw[k4];rfl]
       exact h
      case measure=>simp[intOf]<;>omega
    · have hfa : ¬ f < pa := fun h => hlt3 (hlt2.1 h)
      have HO:=Lib.hid (And.intro hown hbel)
      have hz:=hbel.size
      clear hca ha2 hlt2 hown hbel
      go_wp2_with fail
      refine(X9.out _).mono ?_
      rintro e w' ⟨rfl,rfl⟩
      go_wp2
      go_roundw
      case rel=>
       obtain⟨k1,k2,k3,k4,k5⟩:=HS.out
       refine⟨k+1,by omega,by go_num,by rw[k2];rfl,?_,ah HO.out.2 _⟩
       rw[k2]
       simp only[dQ,if_neg (Int.not_lt.2 hfa)]
       exact HO.out.1.alloc _
      case measure=>simp[intOf]<;>omega
  · have hkn : k = P.length := by omega
    subst hkn
    clear hfl hmin
    have hcf:=sN P [] 0
    rw[List.take_length] at hown hfs ⊢
    have hfl:=qm P ([],0)
    rw[List.length_nil,Nat.zero_add] at hfl
    obtain⟨S,hS⟩:∃S,S=P.foldl dQ ([],0):=⟨_,rfl⟩
    rw[←hS] at hcf hown hfl hfs ⊢
    obtain⟨Q,f⟩:=S
    simp only[List.nil_append] at hown hfl hfs hcf ⊢
    have hlt2:=Ms (p:=f) (q:=1112064)
    rw[show bW 1112064=1114112 from rfl] at hlt2
    have UW:0≤bW f∧bW f≤1114112:=by unfold bW;split<;>omega
    obtain⟨fv,F6⟩:∃fv,fv=bW f:=⟨_,rfl⟩
    rw[←F6] at hlt2 UW ⊢
    have HF:=Lib.hid (And.intro hcf F6)
    clear hcf F6 hS
    obtain⟨ou,cu,rfl⟩:=au hown
    have hz:=hbel.size
    by_cases hend:fv≤1114111
    · have hfa : f < 1112064 := hlt2.2 (by omega)
      clear hlt2
      go_wp2_with (at_builtin;refine bB _ rfl _ _ 32 rfl w.heap.size 79 i0 (.agg #[.int .i32 0,.int .i32 0]) 2 8 Tryz.underlying32 hi hz0 hz1 hz2 rfl (by decide) (.slice ou Q.length cu) Q.length (flatK .i32 (aY Q)) rfl ?hown _ 1 [.int .i32 fv,.int .i32 1114111] rfl ?hrow rfl ?hone ?h63 ?hby ?hbase ?_)
      case hown=>exact hown.alloc _
      case hrow=>exact iW _ _ _ _ _ (by simp)
      case hone=>simp[Value.oneCell']
      case h63=>unfold maxLen;omega
      case hby=>omega
      case hbase=>simp<;>omega
      intro v' w2 hown2 hgrow2
      have hB2:Below w.heap.size w w2:=(hbel.alloc hz _).grown hgrow2 (by simp<;>omega) (fun j hj=>(hown.lt j hj).1)
      have H2:=Lib.hid (And.intro hown2 hB2)
      obtain⟨o2,c2',rfl⟩:=au hown2
      clear hown2 hB2 hgrow2 hown hbel
      go_wp2
      go_ret
      refine⟨_,rfl,?_,H2.out.2⟩
      rw[←HF.out.1]
      simp only[zV,if_pos hfa]
      have h:=H2.out.1
      rw[j6,fH,List.length_append,show(aY [(f,1112064)])=[(fv,1114111)] by rw[HF.out.2];rfl]
      exact h
    · have hfa : ¬ f < 1112064 := fun h => by have := hlt2.1 h; omega
      have HO:=Lib.hid (And.intro hown hbel)
      clear hlt2 hown hbel
      go_wp2
      go_ret
      refine⟨.slice ou Q.length cu,rfl,?_,HO.out.2⟩
      rw[←HF.out.1]
      simp only[zV,if_neg (Int.not_lt.2 hfa)]
      exact HO.out.1
open Go.RowKit De
def UZ (w:World) (p q r:Nat) (a b:Int) (x:Exit) (c:Act) (w':World):Prop:=
 x=.normal∧c.defers=[]∧w'.heap[p]? = some (.cells #[.slice none 0 0] 32 (0,0))∧w'.heap[q]? = some (.cells #[.int .i64 a] 3 (0,0))∧w'.heap[r]? = some (.cells #[.int .i64 b] 3 (0,0))∧∀k,k≤p→k≤q→k≤r→k≤w.heap.size→Below k w w'
theorem kJ (p q r:Nat) (a b:Int) (v x y:Value) (w:World)
 (hP:w.heap[p]? = some (.cells #[v] 32 (0,0))) (hQ:w.heap[q]? = some (.cells #[x] 3 (0,0))) (hR:w.heap[r]? = some (.cells #[y] 3 (0,0))) (hpq:p≠q) (hqr:q≠r) (hpr:p≠r) :
 CallsD Tryz.prog 195 #[.pointer (some ⟨p,0,none⟩),.pointer (some ⟨q,0,none⟩),.pointer (some ⟨r,0,none⟩)] (.panicking ({ v:=.iface 103 (.agg #[.int .i64 a,.int .i64 b]),recovered:=false }::[])) w fun e u' w'=>
  e=.returned (.tuple #[])∧u'=.panicking ({ v:=.iface 103 (.agg #[.int .i64 a,.int .i64 b]),recovered:=true }::[]) ∧
  w'.heap[p]? = some (.cells #[.slice none 0 0] 32 (0,0))∧w'.heap[q]? = some (.cells #[.int .i64 a] 3 (0,0))∧w'.heap[r]? = some (.cells #[.int .i64 b] 3 (0,0))∧∀k,k≤p→k≤q→k≤r→k≤w.heap.size→Below k w w':=by
 have ta:∀w,(Instr.typeAssert (.iface 103 (.agg #[.int .i64 a,.int .i64 b])) 20 103 true).run Tryz.prog w=.ok (.tuple #[.agg #[.int .i64 a,.int .i64 b],.bool true]) w:=fun w=>by kernel_rfl
 obtain⟨cP,fP⟩:=aj hP
 obtain⟨cQ,fQ⟩:=aj hQ
 obtain⟨cR,fR⟩:=aj hR
 refine callsD_of_wpS Tryz.func195 rfl fun c₀ cs hu=>?_
 simp only[Tryz.ntmps195,List.size_toArray,List.length_cons,List.length_nil,Nat.reduceAdd,Nat.reduceSub,Array.replicate_succ,Array.replicate_zero,List.push_toArray,List.append_toArray,List.nil_append,List.cons_append]
 have hrec : dW (c₀ :: cs) = (.iface 103 (.agg #[.int .i64 a, .int .i64 b]), { c₀ with mode := .panicking ({ v := .iface 103 (.agg #[.int .i64 a, .int .i64 b]), recovered := true } :: []) } :: cs) := by
  simp[dW,recoverD,hu]
 apply wpS_seq
 refine bO rfl rfl ?_
 rw[hrec]
 have HU:=Lib.hid hu
 clear hrec hu
 have HI:=Lib.hid (And.intro hP (And.intro hQ hR))
 have hlt:p<w.heap.size:=by rcases Nat.lt_or_ge p w.heap.size with h|h;exact h;simp[h] at hP
 have hlo:q<w.heap.size:=by rcases Nat.lt_or_ge q w.heap.size with h|h;exact h;simp[h] at hQ
 have hlf:r<w.heap.size:=by rcases Nat.lt_or_ge r w.heap.size with h|h;exact h;simp[h] at hR
 clear hP hQ hR
 go_wp2
 simp only[Exit.thenS]
 refine wpS_of_wp (wp_mono (Q:=UZ w p q r a b) ?_ ?_)
 · go_wp2
   go_region
   obtain⟨hP,hQ,hR⟩:=HI.out
   refine⟨rfl,rfl,?_,?_,?_,?_⟩
   · rw [fE, Below.heap_alloc _ _ _ (by simp [World.setCell]; omega), Below.heap_setCell _ _ _ _ (by simpa using hpr), Below.heap_setCell _ _ _ _ (by simpa using hpq)]
     exact set1 hP _
   · rw [fE, Below.heap_alloc _ _ _ (by simp [World.setCell]; omega), Below.heap_setCell _ _ _ _ (by simpa using hqr)]
     refine set1 (a:=x) ?_ _
     rw[Below.heap_setCell _ _ _ _ (by simpa using fun e=>hpq e.symm)]
     exact hQ
   · rw [fE, Below.heap_alloc _ _ _ (by simp [World.setCell]; omega)]
     refine set1 (a:=y) ?_ _
     rw[Below.heap_setCell _ _ _ _ (by simpa using fun e=>hqr e.symm),Below.heap_setCell _ _ _ _ (by simpa using fun e=>hpr e.symm)]
     exact hR
   · intro k h1 h2 h3 h4
     exact(((((Below.refl k w).setCell h1 _).setCell h2 _).setCell h3 _).alloc (by simp[World.setCell];exact h4) _).drew
 · rintro e a w' ⟨rfl, hdf, h1, h2, h3, h4⟩
   refine⟨hdf,_,rfl,.tuple #[],?_,rfl,rfl,h1,h2,h3,h4⟩
   exact results_none rfl _ _ _
theorem zH (p q r:Nat) (w:World) :
 CallsD Tryz.prog 195 #[.pointer (some ⟨p,0,none⟩),.pointer (some ⟨q,0,none⟩),.pointer (some ⟨r,0,none⟩)] .returning w fun e u' w'=>
  e=.returned (.tuple #[])∧u'=.returning∧w'=w.alloc (.cells #[.int .i64 0,.int .i64 0] 103):=by
 have ta:∀w,(Instr.typeAssert .nilIface 20 103 true).run Tryz.prog w=.ok (.tuple #[.agg #[.int .i64 0,.int .i64 0],.bool false]) w:=fun w=>by kernel_rfl
 refine callsD_of_wpS Tryz.func195 rfl fun c₀ cs hu=>?_
 simp only[Tryz.ntmps195,List.size_toArray,List.length_cons,List.length_nil,Nat.reduceAdd,Nat.reduceSub,Array.replicate_succ,Array.replicate_zero,List.push_toArray,List.append_toArray,List.nil_append,List.cons_append]
 have hrec:dW (c₀::cs)=(.nilIface,c₀::cs):=by
  simp[dW,recoverD,hu]
 apply wpS_seq
 refine bO rfl rfl ?_
 rw[hrec]
 have HU:=Lib.hid hu
 clear hrec hu
 go_wp2
 simp only[Exit.thenS]
 refine wpS_of_wp (wp_mono (Q:=fun x a w'=>x=.normal∧a.defers=[]∧w'=w.alloc (.cells #[.int .i64 0,.int .i64 0] 103)) ?_ ?_)
 · go_wp2
 · rintro e a w' ⟨rfl, hdf, rfl⟩
   exact⟨hdf,.returning,by have:=HU.out;cases c₀;simp_all,.tuple #[],results_none rfl _ _ _,rfl,rfl,rfl⟩
structure dR (w w':World) (u:Value):Prop where
 h0:w'.heap[w.heap.size]? = some (.cells #[u] 32 (0,0))
 h1:w'.heap[w.heap.size+1]? = some (.cells #[.int .i64 0] 3 (0,0))
 h2:w'.heap[w.heap.size+1+1]? = some (.cells #[.int .i64 0] 3 (0,0))
 aV:Below w.heap.size w w'
theorem dR.below {w a b:World} {u:Value} (h:dR w a u) (hs:w.heap.size+1+1<a.heap.size) (hb:Below a.heap.size a b):dR w b u:=
 ⟨by rw[hb.block _ (by omega)];exact h.h0,by rw[hb.block _ (by omega)];exact h.h1,by rw[hb.block _ (by omega)];exact h.h2,h.aV.trans (hb.mono h.aV.size)⟩
theorem dR.grown {w a b:World} {u:Value} {row:Option Nat} (h:dR w a u) (hs:w.heap.size+1+1<a.heap.size) (hg:a.grownBy b row) (hr:∀j,row=some j→w.heap.size+1+1<j):dR w b u:=
 ⟨by rw [hg.block _ (by omega) (fun e => by have := hr _ e.symm; omega)]; exact h.h0, by rw [hg.block _ (by omega) (fun e => by have := hr _ e.symm; omega)]; exact h.h1, by rw [hg.block _ (by omega) (fun e => by have := hr _ e.symm; omega)]; exact h.h2,
  h.aV.grown hg h.aV.size (fun j hj=>by have:=hr j hj;omega)⟩
theorem dR.set {w a:World} {u:Value} (h:dR w a u) (v:Value):dR w (a.setCell ⟨w.heap.size,0,none⟩ v) v:=
 ⟨set1 h.h0 v,by rw[Below.heap_setCell _ _ _ _ (by simp)];exact h.h1,by rw[Below.heap_setCell _ _ _ _ (by simp;omega)];exact h.h2,h.aV.setCell (Nat.le_refl _) _⟩
theorem dR.ch {w a b:World} {u:Value} {p:Nat} (h:dR w a u) (hs:w.heap.size+1+1<a.heap.size) (hp:w.heap.size+1+1<p) (hb:Ch a b p):dR w b u:=
 ⟨by rw[hb.block _ (by omega) (by omega)];exact h.h0,by rw[hb.block _ (by omega) (by omega)];exact h.h1,by rw[hb.block _ (by omega) (by omega)];exact h.h2,h.aV.trans ⟨hb.os,hb.tape,hb.output,hb.size,fun k hk=>hb.block k (by have:=h.aV.size;omega) (by omega)⟩⟩
open Go.RowKit De Wd
namespace Wd
def els (L:Its):Nat→List Ru.Pc→Nat→Except Nat (List Ru.Pc)
 | 0,_,_=>.error 0
 | f + 1, acc, k => if acc ≠ [] ∧ L.length ≤ k then .ok acc else match el L k with
  | .error j=>.error j
  | .ok (q,k')=>els L f (acc++[q]) k'
inductive Cr where
 | bad (j:Nat)
 | ok (S:List Ru.Pc)
def cls (L:Its) (n:Nat):Cr:=
 match els L (L.length+2) [] (if pk L 0=94 then 1 else 0) with
 | .error j=>.bad (aA L n j)
 | .ok acc=>if (if pk L 0=94 then Ru.nt acc else Ru.nE acc)=[] then .bad n else .ok (if pk L 0=94 then Ru.nt acc else Ru.nE acc)
theorem OY {L:Its} {f k:Nat} {acc:List Ru.Pc} (ha:acc≠[]) (hk:L.length≤k):els L (f+1) acc k=.ok acc:=by
 simp only[els];rw[if_pos ⟨ha,hk⟩]
end Wd
def lenOf (v:Value):Nat:=match v with|.slice _ n _=>n|_=>0
structure QU (w wr:World) (p:Nat) (L:Its) (k0 n:Nat) (v u:Value) (acc:List Ru.Pc) (f k:Nat):Prop where
 hold:dR w wr (.slice none 0 0)
 ci:CI wr p L k n v
 lo:w.heap.size+1+1<p
 own:wr.ownsRow (p+1) 79 2 u acc.length (flatK .i32 acc)
 len:acc.length≤k
 ok:Ru.FN acc
 eq:els L (L.length+2) [] k0=els L f acc k
 fuel:L.length-k<f
theorem CI.low {a b:World} {p k n:Nat} {L:Its} {ou:Option Addr} {cu:Nat} (h:CI a p L k n (.slice ou L.length cu)) (hb:∀j,j<p+1→b.heap[j]? = a.heap[j]?) (hs:a.heap.size≤b.heap.size) (hlow:∀b off,ou=some ⟨b,off,none⟩→b<p+1):CI b p L k n (.slice ou L.length cu):=by
 refine⟨by rw[hb p (by omega)];exact h.hh,?_,h.far,h.le,h.small⟩
 obtain⟨o,cap,e,l1,l2,h3⟩:=h.row
 simp only[Value.slice.injEq,true_and] at e
 obtain⟨rfl,rfl⟩:=e
 refine⟨_,_,rfl,l1,l2,?_⟩
 rcases h3 with h3|⟨b',off,eb,hb',hc⟩
 · exact .inl h3
 · refine .inr ⟨b', off, eb, by omega, fun j u hu => ?_⟩
   rw[←hc j u hu]
   unfold World.cell?
   rw[hb b' (hlow b' off eb)]
theorem CI.FR {a:World} {p k n E i:Nat} {x:Value} {L:Its} {ou:Option Addr} {cu:Nat} (h:CI a p L k n (.slice ou L.length cu)) (hE:E≠p) (hlow:∀b off,ou=some ⟨b,off,none⟩→b≠E):CI (a.setCell ⟨E,i,none⟩ x) p L k n (.slice ou L.length cu):=by
 refine⟨by rw[Below.heap_setCell _ _ _ _ (by simpa using fun e=>hE e.symm)];exact h.hh,?_,h.far,h.le,h.small⟩
 obtain⟨o,cap,e,l1,l2,h3⟩:=h.row
 simp only[Value.slice.injEq,true_and] at e
 obtain⟨rfl,rfl⟩:=e
 refine⟨_,_,rfl,l1,l2,?_⟩
 rcases h3 with h3|⟨b',off,eb,hb',hc⟩
 · exact .inl h3
 · refine .inr ⟨b', off, eb, by simpa [World.setCell] using hb', fun j u hu => ?_⟩
   rw[←hc j u hu]
   unfold World.cell?
   rw[Below.heap_setCell _ _ _ _ (by simpa using hlow b' off eb)]
theorem dR.again {w X:World} {u:Value} (h:dR w X u):dR w (((X.setCell ⟨w.heap.size,0,none⟩ u).setCell ⟨w.heap.size+1,0,none⟩ (.int .i64 0)).setCell ⟨w.heap.size+1+1,0,none⟩ (.int .i64 0)) u:=by
 refine⟨?_,?_,?_,((h.aV.setCell (Nat.le_refl _) _).setCell (by simp) _).setCell (by simp;omega) _⟩
 · rw[Below.heap_setCell _ _ _ _ (by simp;omega),Below.heap_setCell _ _ _ _ (by simp)];exact set1 h.h0 _
 · rw[Below.heap_setCell _ _ _ _ (by simp)];refine set1 (a:=.int .i64 0) ?_ _;rw[Below.heap_setCell _ _ _ _ (by simp)];exact h.h1
 · refine set1 (a:=.int .i64 0) ?_ _;rw[Below.heap_setCell _ _ _ _ (by simp),Below.heap_setCell _ _ _ _ (by simp;omega)];exact h.h2
theorem dR.low {w a b:World} {u:Value} {q:Nat} (h:dR w a u) (hs:w.heap.size+1+1<q) (hb:Below q a b):dR w b u:=
 ⟨by rw[hb.block _ (by omega)];exact h.h0,by rw[hb.block _ (by omega)];exact h.h1,by rw[hb.block _ (by omega)];exact h.h2,h.aV.trans (hb.mono (by omega))⟩
theorem Ru.vN (l:List Ru.Pc):(Ru.nE l).length=(Ru.aT l).length:=by unfold Ru.nE;rw[Ru.iB]
theorem Ru.FU (l:List Ru.Pc):(Ru.nt l).length=(Ru.eP 0 (Ru.aT l)).length:=by unfold Ru.nt;rw[Ru.iB]
theorem Ru.sM (l:List Ru.Pc):(Ru.aT l).length≤l.length:=by
 unfold Ru.aT
 have h1:=Ru.qP (Ru.rH (Ru.raw l))
 have h2:∀l:List Ru.Pc,(Ru.rH l).length=l.length:=by
  have hi:∀(p:Ru.Pc) (l:List Ru.Pc),(Ru.ins p l).length=l.length+1:=by
   intro p l
   induction l with
   | nil=>rfl
   | cons q l ih=>simp only[Ru.ins];split<;>simp[ih]
  intro l
  induction l with
  | nil=>rfl
  | cons q l ih=>simp only[Ru.rH];rw[hi,ih];rfl
 have h3:(Ru.raw l).length≤l.length:=by
  unfold Ru.raw
  have:=List.length_filter_le (fun p:Ru.Pc=>decide (p.1<p.2)) (l.map Ru.bJ)
  simpa using this
 rw[h2] at h1;omega
theorem Ru.SK (l : List Ru.Pc) : ∀ q ∈ Ru.aT l, 0 ≤ q.1 ∧ q.1 < q.2 ∧ q.2 ≤ 1112064 := fun q hq => by
 have h1:=(Ru.qN l).pos q hq
 have h2:=Ru.vB l q hq
 omega
theorem QU.stop {w wr:World} {p:Nat} {L:Its} {k0 n:Nat} {v u:Value} {acc:List Ru.Pc} {f k:Nat} (h:QU w wr p L k0 n v u acc f k) (ha:acc≠[]) (hk:L.length≤k):els L (L.length+2) [] k0=.ok acc:=by
 obtain⟨f,rfl⟩:∃g,f=g+1:=⟨f-1,by have:=h.fuel;omega⟩
 rw[h.eq,OY ha hk]
end Go.Proofs.YtfkmajjgkdjncaaGreatDoor
