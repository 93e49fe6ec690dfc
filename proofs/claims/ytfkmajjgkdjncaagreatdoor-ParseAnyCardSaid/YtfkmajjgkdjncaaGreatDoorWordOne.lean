/- Merged. -/
import Derived.Shelf.Strconv.Clone
import Derived.Shelf.Small.Strs
import Derived.Shelf.SlSortCmp.WholeK
import Derived.Ground.NamesProg
import Derived.Ground.SlsfProg
import Derived.Shelf.SlGeneric
import Derived.Test.YtfkmajjgkdjncaaGreatDoorDecWhole
import Derived.WalkSpells
set_option linter.unusedVariables false
set_option linter.unusedSimpArgs false
set_option maxHeartbeats 4000000
set_option maxRecDepth 1000000
namespace Go.Proofs.YtfkmajjgkdjncaaGreatDoor
open De
namespace Wd
def kZ (c:Int):Bool:=decide (97≤c∧c≤122)
def dN (c:Int):Bool:=decide (48≤c∧c≤57)
def lW (c:Int):Bool:=!(decide (c=10))
def eD (c:Int):Bool:=kZ c || dN c
def signs:List Int:=[123,125,40,41,124,42,94,60,62,58,95,61]
def vL (c:Int):Bool:=decide (c∈signs)
def rn (p:Int→Bool):List Int→Nat
 | []=>0
 | c::t=>if p c=true then rn p t+1 else 0
def ex:Bool→List Int→Option Nat
 | _,[]=>none
 | e,c::t=>if c=10 then none else if e=true then (ex false t).map (· + 1) else if c=47 then some 0 else (ex (decide (c=92)) t).map (· + 1)
structure Wt where
 k:Int
 o:Nat
 n:Nat
 z:Nat
def wd:List Int→Option Wt
 | []=>none
 | c :: t =>
  if c=32∨c=9∨c=13 then some ⟨0,0,0,1⟩
  else if c=35 then some ⟨0,0,0,rn lW (c::t)⟩
  else if c=10 then some ⟨5,0,0,1⟩
  else if c=47 then (ex false t).map fun n=>⟨4,1,n,n+2⟩
  else if kZ c=true then some ⟨1,0,rn eD (c::t),rn eD (c::t)⟩
  else if dN c=true then some ⟨2,0,rn dN (c::t),rn dN (c::t)⟩
  else if vL c=true then some ⟨3,0,1,1⟩
  else none
theorem qI (p:Int→Bool) (l:List Int):rn p l≤l.length:=by
 induction l with
 | nil=>simp[rn]
 | cons c t ih=>simp only[rn];split<;>simp<;>omega
theorem vE {p:Int→Bool} {c:Int} {t:List Int} (h:p c=true):1≤rn p (c::t):=by simp[rn,h]
theorem TU {p:Int→Bool} {l:List Int} {k:Nat} {c:Int} (h:k<rn p l) (hk:l[k]? = some c):p c=true:=by
 induction l generalizing k with
 | nil=>simp at hk
 | cons d t ih =>
  simp only[rn] at h
  split at h
  · rename_i hd
    cases k with
    | zero=>simp at hk;subst hk;exact hd
    | succ k=>exact ih (k:=k) (by omega) (by simpa using hk)
  · omega
theorem CR {p:Int→Bool} {l:List Int} {k:Nat} (h:k≤rn p l):rn p l=k+rn p (l.drop k):=by
 induction l generalizing k with
 | nil=>simp[rn] at h ⊢;omega
 | cons d t ih =>
  cases k with
  | zero=>simp
  | succ k =>
   simp only[rn] at h ⊢
   split at h
   · rename_i hd
     rw[if_pos hd,List.drop_succ_cons,ih (k:=k) (by omega)];omega
   · omega
theorem CS {p:Int→Bool} {c:Int} {t:List Int} (h:p c=false):rn p (c::t)=0:=by simp[rn,h]
theorem Fu {p:Int→Bool} {c:Int} {t:List Int} (h:p c=true):rn p (c::t)=rn p t+1:=by simp[rn,h]
theorem Jy {e:Bool} {l:List Int} {n:Nat} (h:ex e l=some n):n<l.length∧l[n]? = some 47:=by
 induction l generalizing e n with
 | nil=>simp[ex] at h
 | cons c t ih =>
  simp only[ex] at h
  split at h
  · cases h
  split at h
  · simp only [Option.map_eq_some_iff] at h
    obtain⟨m,hm,rfl⟩:=h
    have:=ih hm
    simp;exact this
  split at h
  · simp at h;subst h;simp[*]
  · simp only [Option.map_eq_some_iff] at h
    obtain⟨m,hm,rfl⟩:=h
    have:=ih hm
    simp;exact this
theorem kr {l:List Int} {x:Wt} (h:wd l=some x):1≤x.z∧x.z≤l.length∧0≤x.k∧x.k≤5 ∧
 (x.k=0→x.o=0∧x.n=0)∧(1≤x.k∧x.k≤3→x.o=0∧x.n=x.z)∧(x.k=4→x.o=1∧x.z=x.n+2∧l[0]? = some 47∧l[x.n+1]? = some 47)∧(x.k=5→x.o=0∧x.n=0∧x.z=1∧l[0]? = some 10):=by
 cases l with
 | nil=>simp[wd] at h
 | cons c t =>
  have r1:=qI lW (c::t)
  have r2:=qI eD (c::t)
  have r3:=qI dN (c::t)
  simp only[wd] at h
  split at h
  · cases h;simp
  split at h
  · rename_i h2
    have:=vE (p:=lW) (c:=c) (t:=t) (by simp[lW,h2])
    cases h;refine⟨this,r1,?_⟩;simp
  split at h
  · rename_i h3;cases h;simp[h3]
  split at h
  · rename_i h4
    simp only[Option.map_eq_some_iff] at h
    obtain⟨n,hn,rfl⟩:=h
    have:=Jy hn
    refine⟨by simp,by simp;omega,by simp,by simp,by simp,by simp,fun _=>⟨rfl,rfl,by simp[h4],by simpa using this.2⟩,by simp⟩
  split at h
  · rename_i h5
    have:=vE (p:=eD) (c:=c) (t:=t) (by simp[eD,h5])
    cases h;refine⟨this,r2,?_⟩;simp
  split at h
  · rename_i h6
    have:=vE (p:=dN) (c:=c) (t:=t) h6
    cases h;refine⟨this,r3,?_⟩;simp
  split at h
  · cases h;simp
  · cases h
def sc (a:Nat) (l:List Int):List (Nat×Wt)×Option Nat:=
 if h:l=[] then ([],none) else
 match wd l with
 | none=>([],some a)
 | some x =>
  let r:=sc (a+max x.z 1) (l.drop (max x.z 1))
  (if x.k=0 then r.1 else (a,x)::r.1,r.2)
termination_by l.length
decreasing_by
 rw[List.length_drop]
 have:0<l.length:=List.length_pos_iff.2 h
 omega
theorem qO (a:Nat):sc a []=([],none):=by unfold sc;simp
theorem vD {a:Nat} {l:List Int} (hl:l≠[]) (h:wd l=none):sc a l=([],some a):=by
 unfold sc;rw[dif_neg hl,h]
theorem rY {a:Nat} {l:List Int} {x:Wt} (h:wd l=some x):sc a l=(if x.k=0 then (sc (a+x.z) (l.drop x.z)).1 else (a,x)::(sc (a+x.z) (l.drop x.z)).1,(sc (a+x.z) (l.drop x.z)).2):=by
 have hl:l≠[]:=by rintro rfl;simp[wd] at h
 have hz:max x.z 1=x.z:=by have:=(kr h).1;omega
 conv=>lhs;unfold sc
 rw[dif_neg hl,h]
 simp only[hz]
theorem EU {P:Nat→List Int→Prop} (h0:∀a,P a []) (h1:∀a l,l≠[]→wd l=none→P a l) (h2:∀a l x,wd l=some x→P (a+x.z) (l.drop x.z)→P a l):∀a l,P a l:=by
 have:∀n a l,l.length≤n→P a l:=by
  intro n
  induction n with
  | zero=>intro a l h;have:l=[]:=List.eq_nil_of_length_eq_zero (by omega);subst this;exact h0 a
  | succ n ih =>
   intro a l h
   by_cases hl:l=[]
   · subst hl;exact h0 a
   · cases hw : wd l with
     | none=>exact h1 a l hl hw
     | some x =>
      refine h2 a l x hw (ih _ _ ?_)
      have:=(kr hw).1
      have:=(kr hw).2.1
      rw[List.length_drop];omega
 exact fun a l=>this l.length a l (Nat.le_refl _)
theorem TV (a:Nat) (l:List Int):(sc a l).1.length≤l.length:=by
 refine EU (P:=fun a l=>(sc a l).1.length≤l.length) ?_ ?_ ?_ a l
 · intro a;rw[qO];simp
 · intro a l hl h;rw[vD hl h];simp
 · intro a l x h ih
   have h1:=(kr h).1
   have h2:=(kr h).2.1
   rw[rY h]
   rw[List.length_drop] at ih
   simp only
   split<;>simp<;>omega
theorem Sb {a b:Nat} {l:List Int} (h:(sc a l).2=some b):a≤b∧b<a+l.length:=by
 revert h
 refine EU (P:=fun a l=>(sc a l).2=some b→a≤b∧b<a+l.length) ?_ ?_ ?_ a l
 · intro a;rw[qO];simp
 · intro a l hl h;rw[vD hl h];have:0<l.length:=List.length_pos_iff.2 hl;simp;omega
 · intro a l x h ih
   have h1:=(kr h).1
   have h2:=(kr h).2.1
   rw[rY h]
   intro h3
   have:=ih h3
   rw[List.length_drop] at this
   omega
def fb (l:List Int):Nat:=match (all 0 l).find? (·.2.bad) with|some p=>p.1|none=>l.length
inductive Rs where
 | bad (code:Int) (at_:Nat)
 | ok (W:List (Nat×Wt))
def rs (l:List Int):Rs:=
 if 4000<l.length then .bad 6 0
 else match (sc 0 l).2 with
  | some a=>.bad 2 (min a (fb l))
  | none=>if fb l<l.length then .bad 2 (fb l) else .ok (sc 0 l).1
end Wd
open Go.Shelf
def Tryz.Ky:Go.Shelf.Ren:=⟨fun|316=>120|n=>n,fun|9=>9|3=>3|4=>4|37=>84|0=>0|127=>183|5=>5|n=>n,fun|n=>n⟩
theorem Tryz.Us:Go.Proofs.LaysM.n316 Tryz.prog Tryz.Ky:={
 mixed:=by kernel_rfl
 f316:=Tryz.func120.trans (congrArg some (by kernel_rfl))
 t0:=Tryz.underlying0
 a0:=Tryz.isAgg0
 z0:=Tryz.sizeOf0
 v0:=Tryz.zeroValue0
 t3:=Tryz.underlying3
 a3:=Tryz.isAgg3
 z3:=Tryz.sizeOf3
 v3:=Tryz.zeroValue3
 t4:=Tryz.underlying4
 a4:=Tryz.isAgg4
 z4:=Tryz.sizeOf4
 v4:=Tryz.zeroValue4
 t9:=Tryz.underlying9
 a9:=Tryz.isAgg9
 z9:=Tryz.sizeOf9
 v9:=Tryz.zeroValue9
 t37:=Tryz.underlying84
 a37:=Tryz.isAgg84
 z37:=Tryz.sizeOf84
 v37:=Tryz.zeroValue84
 t127:=Tryz.underlying183
 a127:=Tryz.isAgg183
 z127:=Tryz.sizeOf183
 v127:=Tryz.zeroValue183
 t5:=Tryz.underlying5
 a5:=Tryz.isAgg5
 z5:=Tryz.sizeOf5
 v5:=Tryz.zeroValue5
 i0:=by kernel_rfl
 i3:=by kernel_rfl
 i4:=by kernel_rfl
 i5:=by kernel_rfl
 i9:=by kernel_rfl
 i37:=by kernel_rfl
 i127:=by kernel_rfl }
def Tryz.Kz:Go.Shelf.Ren:=⟨fun|137=>87|217=>119|266=>140|n=>n,fun|9=>9|5=>5|3=>3|n=>n,fun|n=>n⟩
theorem Tryz.indexB:Go.Proofs.Lays.n137 Tryz.prog Tryz.Kz:={
 mixed:=by kernel_rfl
 f137:=Tryz.func87.trans (congrArg some (by kernel_rfl))
 f217:=Tryz.func119.trans (congrArg some (by kernel_rfl))
 f266:=Tryz.func140.trans (congrArg some (by kernel_rfl))
 t3:=Tryz.underlying3
 a3:=Tryz.isAgg3
 z3:=Tryz.sizeOf3
 v3:=Tryz.zeroValue3
 t5:=Tryz.underlying5
 a5:=Tryz.isAgg5
 z5:=Tryz.sizeOf5
 v5:=Tryz.zeroValue5
 t9:=Tryz.underlying9
 a9:=Tryz.isAgg9
 z9:=Tryz.sizeOf9
 v9:=Tryz.zeroValue9 }
def Tryz.L8:Go.Shelf.Ren:=⟨fun|6=>206|15=>202|14=>229|28=>219|29=>220|20=>243|21=>244|22=>245|23=>246|24=>247|25=>248|26=>249|27=>250|46=>254|47=>232|48=>233|49=>255|50=>256|57=>257|n=>n,fun|22=>32|24=>79|25=>243|3=>3|39=>37|0=>0|53=>44|55=>216|4=>4|46=>247|45=>246|50=>251|5=>5|9=>9|66=>261|70=>265|76=>275|77=>76|n=>n,fun|n=>n⟩
theorem Tryz.QH:Go.Proofs.SlLaysF0.n6 Tryz.prog Tryz.L8:={
 mixed:=by kernel_rfl
 f6:=⟨Tryz.f206.name,by decide,Tryz.func206.trans (congrArg some (by kernel_rfl))⟩
 f14:=⟨Tryz.f229.name,by decide,Tryz.func229.trans (congrArg some (by kernel_rfl))⟩
 f15:=Tryz.func202.trans (congrArg some (by kernel_rfl))
 f20:=⟨Tryz.f243.name,by decide,Tryz.func243.trans (congrArg some (by kernel_rfl))⟩
 f21:=⟨Tryz.f244.name,by decide,Tryz.func244.trans (congrArg some (by kernel_rfl))⟩
 f22:=⟨Tryz.f245.name,by decide,Tryz.func245.trans (congrArg some (by kernel_rfl))⟩
 f23:=⟨Tryz.f246.name,by decide,Tryz.func246.trans (congrArg some (by kernel_rfl))⟩
 f24:=⟨Tryz.f247.name,by decide,Tryz.func247.trans (congrArg some (by kernel_rfl))⟩
 f25:=⟨Tryz.f248.name,by decide,Tryz.func248.trans (congrArg some (by kernel_rfl))⟩
 f26:=⟨Tryz.f249.name,by decide,Tryz.func249.trans (congrArg some (by kernel_rfl))⟩
 f27:=⟨Tryz.f250.name,by decide,Tryz.func250.trans (congrArg some (by kernel_rfl))⟩
 f28:=Tryz.func219.trans (congrArg some (by kernel_rfl))
 f29:=Tryz.func220.trans (congrArg some (by kernel_rfl))
 f46:=⟨Tryz.f254.name,by decide,Tryz.func254.trans (congrArg some (by kernel_rfl))⟩
 f47:=Tryz.func232.trans (congrArg some (by kernel_rfl))
 f48:=Tryz.func233.trans (congrArg some (by kernel_rfl))
 f49:=⟨Tryz.f255.name,by decide,Tryz.func255.trans (congrArg some (by kernel_rfl))⟩
 f50:=⟨Tryz.f256.name,by decide,Tryz.func256.trans (congrArg some (by kernel_rfl))⟩
 f57:=⟨Tryz.f257.name,by decide,Tryz.func257.trans (congrArg some (by kernel_rfl))⟩
 t0:=Tryz.underlying0
 a0:=Tryz.isAgg0
 z0:=Tryz.sizeOf0
 v0:=Tryz.zeroValue0
 t3:=Tryz.underlying3
 a3:=Tryz.isAgg3
 z3:=Tryz.sizeOf3
 v3:=Tryz.zeroValue3
 t4:=Tryz.underlying4
 a4:=Tryz.isAgg4
 z4:=Tryz.sizeOf4
 v4:=Tryz.zeroValue4
 t5:=Tryz.underlying5
 a5:=Tryz.isAgg5
 z5:=Tryz.sizeOf5
 v5:=Tryz.zeroValue5
 t9:=Tryz.underlying9
 a9:=Tryz.isAgg9
 z9:=Tryz.sizeOf9
 v9:=Tryz.zeroValue9
 t22:=Tryz.underlying32
 a22:=Tryz.isAgg32
 z22:=Tryz.sizeOf32
 v22:=Tryz.zeroValue32
 t25:=Tryz.underlying243
 a25:=Tryz.isAgg243
 z25:=Tryz.sizeOf243
 v25:=Tryz.zeroValue243
 t39:=Tryz.underlying37
 a39:=Tryz.isAgg37
 z39:=Tryz.sizeOf37
 v39:=Tryz.zeroValue37
 t45:=Tryz.underlying246
 a45:=Tryz.isAgg246
 z45:=Tryz.sizeOf246
 v45:=Tryz.zeroValue246
 t46:=Tryz.underlying247
 a46:=Tryz.isAgg247
 z46:=Tryz.sizeOf247
 v46:=Tryz.zeroValue247
 t50:=Tryz.underlying251
 a50:=Tryz.isAgg251
 z50:=Tryz.sizeOf251
 v50:=Tryz.zeroValue251
 t53:=Tryz.underlying44
 a53:=Tryz.isAgg44
 z53:=Tryz.sizeOf44
 v53:=Tryz.zeroValue44
 t55:=Tryz.underlying216
 a55:=Tryz.isAgg216
 z55:=Tryz.sizeOf216
 v55:=Tryz.zeroValue216
 t66:=Tryz.underlying261
 a66:=Tryz.isAgg261
 z66:=Tryz.sizeOf261
 v66:=Tryz.zeroValue261
 t70:=Tryz.underlying265
 a70:=Tryz.isAgg265
 z70:=Tryz.sizeOf265
 v70:=Tryz.zeroValue265
 t76:=Tryz.underlying275
 a76:=Tryz.isAgg275
 z76:=Tryz.sizeOf275
 v76:=Tryz.zeroValue275
 t77:=Tryz.underlying76
 a77:=Tryz.isAgg76
 z77:=Tryz.sizeOf76
 v77:=Tryz.zeroValue76 }
open Go.RowKit De
theorem sD (bs:List Int) (v:Value) (w:World) (hr:Row w v bs.length (bs.map (Value.int .u8))) (hu:∀x∈bs,0≤x∧x<256) (hl:bs.length≤1000000) :
 Calls Tryz.prog 29 #[v] w fun e w'=>∃u,e=.returned u∧w'.ownsRow w.heap.size 127 5 u (all 0 bs).length (lM (all 0 bs))∧Below w.heap.size w w':=by
 obtain⟨ii,hi,hz0,hz1,hz2⟩:=Fv
 have HR:=Lib.hid hr
 have HU:=Lib.hid hu
 obtain⟨o,cap,rfl,hcap,hmax,_⟩:=hr
 have hw:=L9 bs (.slice o bs.length cap) 0 w HR.out hu (by omega) hl
 have hrest:=CO 0 bs
 have hlen:=Un 0 bs
 have HA:Hid (all 0 bs=(wh 0 bs).1++(if (wh 0 bs).2=[] then [] else [(0+bs.length-(wh 0 bs).2.length,De.one (wh 0 bs).2)])):=Lib.hid rfl
 obtain⟨A,R,X5⟩:∃A R,wh 0 bs=(A,R):=⟨_,_,rfl⟩
 rw[X5] at hw hrest hlen HA
 simp only at hw hrest hlen HA
 clear X5 hu
 obtain⟨r1,r2,r3,r4⟩:=hrest
 go_enter Tryz.func29,Tryz.ntmps29
 go_wp2_with fail
 refine hw.mono ?_
 rintro e w1 ⟨u,rfl,hown,hb1⟩
 obtain⟨ou,cu,rfl⟩:=au hown
 obtain⟨k,hk⟩:∃k,k=bs.length-R.length:=⟨_,rfl⟩
 have hkl:k≤bs.length:=by omega
 rw[←hk]
 by_cases hR:R=[]
 · subst hR
   simp only[List.length_nil,Nat.sub_zero] at hk
   have HO:=Lib.hid (And.intro hown hb1)
   have hg:decide (k<bs.length)=false:=by simp;omega
   clear hown hb1 r4 r3 hk
   go_wp2
   go_ret
   rw[HA.out]
   exact⟨_,rfl,by simpa using HO.out.1,HO.out.2⟩
 · have hR1 : 0 < R.length := List.length_pos_iff.2 hR
   have hg:k<bs.length:=by omega
   obtain⟨o1,c1,hst,hsl⟩:=Ma o cap bs.length (bs.map (Value.int .u8)) (by simp) k hkl hcap
   have hrow:=hsl w1 (HR.out.below hb1)
   rw[DI,show bs.drop k=R by rw[r4,hk]] at hrow
   have hl2:bs.length-k=R.length:=by omega
   have hc:=QJ R hR (.slice o1 (bs.length-k) c1) k w1 (bs.length-k) hl2 hrow (fun y hy=>HU.out y (by rw[r4] at hy;exact List.mem_of_mem_drop hy)) (by omega) (by omega)
   have HK:=Lib.hid hk
   have HR4:=Lib.hid (And.intro r4 (And.intro r3 hl2))
   obtain⟨x,hx⟩:∃x,x=De.one R:=⟨_,rfl⟩
   rw[←hx] at hc
   have HX:=Lib.hid hx
   clear hsl hrow r4 r3 hk hl2 hx
   go_wp2_with fail
   refine hc.mono ?_
   rintro e w2 ⟨rfl,hb2⟩
   have hown2:=bS hown hb2
   have hB2:Below w.heap.size w w2:=hb1.trans (hb2.mono hb1.size)
   have hs2:=hB2.size
   clear hown hb1 hb2 hc hw
   go_wp2_with (at_builtin;refine bB _ rfl _ _ 82 rfl w.heap.size 127 ii (.agg #[.int .i32 0,.int .i64 0,.int .i64 0,.bool false,.bool false]) 5 32 Tryz.underlying82 hi hz0 hz1 hz2 rfl (by decide) _ _ _ rfl ((hown2.alloc _).alloc _) _ 1 [.int .i32 x.r,.int .i64 (k:Int),.int .i64 ((k:Int)+x.n),.bool x.bad,.bool x.more] rfl (Jz _ _ _ _ _ _ _ _ (by simp)) rfl (by simp[Value.oneCell']) (by unfold maxLen;omega) (by omega) (by simp;omega) ?_;intro v' w3 hown3 hgrow3;have q6:Below w.heap.size w w3:=((hB2.alloc (by omega) _).alloc (by simp;omega) _).grown hgrow3 (by simp;omega) (fun j hj=>(hown2.lt j hj).1))
   have H3:=Lib.hid (And.intro hown3 q6)
   clear hown3 q6 hgrow3 hown2 hB2
   go_wp2
   go_ret
   rw[HA.out,if_neg hR]
   refine⟨_,rfl,?_,H3.out.2⟩
   have h:=H3.out.1
   rw[zC,List.length_append,←HX.out]
   have ek:0+bs.length-R.length=k:=by rw[HK.out];omega
   rw[ek]
   simpa [lM,itc] using h
open Go.RowKit De Wd
theorem dI {a b:Bool} (h:a=b):Ending.returned (.bool a)=.returned (.bool b):=by rw[h]
theorem gy (s:ByteArray) (k:Nat) (hk:k<s.size):(sb s).drop k=(s[k].toNat:Int)::(sb s).drop (k+1):=by
 rw[List.drop_eq_getElem_cons (by rw[bg];exact hk)]
 congr 1
 have:=Ut s k hk
 rw[←this,List.getD,List.getElem?_eq_getElem (by rw[bg];exact hk)];rfl
theorem uF (s : ByteArray) (w : World) (hs : s.size ≤ 100000) : Calls Tryz.prog 88 #[.string s] w fun e w' => e = .returned (.string s) ∧ Below w.heap.size w w' := by
 have hc:=fun w=>Any.stringslite_Clone Tryz.Us s w (by omega)
 have HC:=Lib.hid hc
 clear hc
 go_enter Tryz.func88,Tryz.ntmps88
 go_wp2_with fail
 refine(HC.out _).mono ?_
 rintro e w' ⟨rfl,hb⟩
 go_wp2
 go_ret
 exact⟨rfl,hb⟩
theorem lJ (c : Int) (w : World) : Calls Tryz.prog 84 #[.int .u8 c] w fun e w' => e = .returned (.bool (kZ c)) ∧ w = w' := by
 by_cases h1:97≤c
 · by_cases h2 : c ≤ 122
   all_goals
    go_enter Tryz.func84,Tryz.ntmps84
    go_wp2
    go_ret
    exact⟨dI (by simp[kZ]<;>omega),rfl⟩
 · go_enter Tryz.func84, Tryz.ntmps84
   go_wp2
   go_ret
   exact⟨dI (by simp[kZ]<;>omega),rfl⟩
theorem nI (c : Int) (w : World) : Calls Tryz.prog 86 #[.int .u8 c] w fun e w' => e = .returned (.bool (dN c)) ∧ w = w' := by
 by_cases h1:48≤c
 · by_cases h2 : c ≤ 57
   all_goals
    go_enter Tryz.func86,Tryz.ntmps86
    go_wp2
    go_ret
    exact⟨dI (by simp[dN]<;>omega),rfl⟩
 · go_enter Tryz.func86, Tryz.ntmps86
   go_wp2
   go_ret
   exact⟨dI (by simp[dN]<;>omega),rfl⟩
theorem Mc (c : Int) (w : World) : Calls Tryz.prog 82 #[.int .u8 c] w fun e w' => e = .returned (.bool (lW c)) ∧ w = w' := by
 go_enter Tryz.func82,Tryz.ntmps82
 go_wp2
 go_ret
 exact⟨dI rfl,rfl⟩
theorem KA (c : Int) (w : World) : Calls Tryz.prog 85 #[.int .u8 c] w fun e w' => e = .returned (.bool (eD c)) ∧ w = w' := by
 cases hl:kZ c with
 | true =>
  have H:=Lib.hid hl
  have hc:=fun w=>lJ c w
  rw[hl] at hc
  clear hl
  go_enter Tryz.func85,Tryz.ntmps85
  go_wp2_with (go_at_call 84;refine(hc _).mono ?_;rintro e w' ⟨rfl,rfl⟩)
  go_ret
  exact⟨dI (by simp[eD,H.out]),rfl⟩
 | false =>
  have H:=Lib.hid hl
  have hc:=fun w=>lJ c w
  rw[hl] at hc
  clear hl
  go_enter Tryz.func85,Tryz.ntmps85
  go_wp2_with (first
   | (go_at_call 84;refine(hc _).mono ?_;rintro e w' ⟨rfl,rfl⟩)
   | (go_at_call 86;refine(nI c _).mono ?_;rintro e w' ⟨rfl,rfl⟩))
  go_ret
  exact⟨dI (by simp[eD,H.out]),rfl⟩
theorem Md (s : ByteArray) (w : World) (hs : s.size ≤ 100000) : Calls Tryz.prog 81 #[.string s, .func (Fn.func 82) #[] #[]] w fun e w' => e = .returned (.int .i64 (rn lW (sb s))) ∧ w = w' := by
 have hle:=qI lW (sb s)
 rw[bg] at hle
 go_enter Tryz.func81,Tryz.ntmps81
 go_wp2_with fail
 go_loop [5] (fun n=>∃k:Nat,k≤rn lW (sb s)∧n=.int .i64 k) (fun n=>s.size-(intOf n).toNat)
 case atStart=>exact⟨0,Nat.zero_le _,rfl⟩
 case round=>
  obtain⟨k,hk,rfl⟩:=hrel
  have hrd:=CR hk
  by_cases hlt:k<s.size
  · rw [gy s k hlt] at hrd
    have hc:=fun w=>Mc (s[k].toNat:Int) w
    cases hp:lW (s[k].toNat:Int) with
    | true =>
     rw[Fu hp] at hrd
     rw[hp] at hc
     have HC:=Lib.hid hc
     have hk1:k+1≤rn lW (sb s):=by omega
     clear hc hp hrd
     go_wp2_with (go_at_call 82;refine(HC.out _).mono ?_;rintro e w' ⟨rfl,rfl⟩)
     go_round
     case rel=>exact⟨k+1,hk1,by go_num⟩
     case measure=>simp[intOf];omega
    | false =>
     rw[CS hp] at hrd
     rw[hp] at hc
     have HC:=Lib.hid hc
     have HR:=Lib.hid hrd
     clear hc hp hrd
     go_wp2_with (go_at_call 82;refine(HC.out _).mono ?_;rintro e w' ⟨rfl,rfl⟩)
     go_ret
     exact⟨by rw[HR.out];rfl,rfl⟩
  · have hkn : k = rn lW (sb s) := by omega
    have HR:=Lib.hid hkn
    have hd:decide (k<s.size)=false:=by simp;omega
    clear hkn hrd hlt
    go_wp2
    go_ret
    exact⟨by rw[←HR.out];rfl,rfl⟩
theorem KC (s : ByteArray) (w : World) (hs : s.size ≤ 100000) : Calls Tryz.prog 81 #[.string s, .func (Fn.func 85) #[] #[]] w fun e w' => e = .returned (.int .i64 (rn eD (sb s))) ∧ w = w' := by
 have hle:=qI eD (sb s)
 rw[bg] at hle
 go_enter Tryz.func81,Tryz.ntmps81
 go_wp2_with fail
 go_loop [5] (fun n=>∃k:Nat,k≤rn eD (sb s)∧n=.int .i64 k) (fun n=>s.size-(intOf n).toNat)
 case atStart=>exact⟨0,Nat.zero_le _,rfl⟩
 case round=>
  obtain⟨k,hk,rfl⟩:=hrel
  have hrd:=CR hk
  by_cases hlt:k<s.size
  · rw [gy s k hlt] at hrd
    have hc:=fun w=>KA (s[k].toNat:Int) w
    cases hp:eD (s[k].toNat:Int) with
    | true =>
     rw[Fu hp] at hrd
     rw[hp] at hc
     have HC:=Lib.hid hc
     have hk1:k+1≤rn eD (sb s):=by omega
     clear hc hp hrd
     go_wp2_with (go_at_call 85;refine(HC.out _).mono ?_;rintro e w' ⟨rfl,rfl⟩)
     go_round
     case rel=>exact⟨k+1,hk1,by go_num⟩
     case measure=>simp[intOf];omega
    | false =>
     rw[CS hp] at hrd
     rw[hp] at hc
     have HC:=Lib.hid hc
     have HR:=Lib.hid hrd
     clear hc hp hrd
     go_wp2_with (go_at_call 85;refine(HC.out _).mono ?_;rintro e w' ⟨rfl,rfl⟩)
     go_ret
     exact⟨by rw[HR.out];rfl,rfl⟩
  · have hkn : k = rn eD (sb s) := by omega
    have HR:=Lib.hid hkn
    have hd:decide (k<s.size)=false:=by simp;omega
    clear hkn hrd hlt
    go_wp2
    go_ret
    exact⟨by rw[←HR.out];rfl,rfl⟩
theorem Me (s : ByteArray) (w : World) (hs : s.size ≤ 100000) : Calls Tryz.prog 81 #[.string s, .func (Fn.func 86) #[] #[]] w fun e w' => e = .returned (.int .i64 (rn dN (sb s))) ∧ w = w' := by
 have hle:=qI dN (sb s)
 rw[bg] at hle
 go_enter Tryz.func81,Tryz.ntmps81
 go_wp2_with fail
 go_loop [5] (fun n=>∃k:Nat,k≤rn dN (sb s)∧n=.int .i64 k) (fun n=>s.size-(intOf n).toNat)
 case atStart=>exact⟨0,Nat.zero_le _,rfl⟩
 case round=>
  obtain⟨k,hk,rfl⟩:=hrel
  have hrd:=CR hk
  by_cases hlt:k<s.size
  · rw [gy s k hlt] at hrd
    have hc:=fun w=>nI (s[k].toNat:Int) w
    cases hp:dN (s[k].toNat:Int) with
    | true =>
     rw[Fu hp] at hrd
     rw[hp] at hc
     have HC:=Lib.hid hc
     have hk1:k+1≤rn dN (sb s):=by omega
     clear hc hp hrd
     go_wp2_with (go_at_call 86;refine(HC.out _).mono ?_;rintro e w' ⟨rfl,rfl⟩)
     go_round
     case rel=>exact⟨k+1,hk1,by go_num⟩
     case measure=>simp[intOf];omega
    | false =>
     rw[CS hp] at hrd
     rw[hp] at hc
     have HC:=Lib.hid hc
     have HR:=Lib.hid hrd
     clear hc hp hrd
     go_wp2_with (go_at_call 86;refine(HC.out _).mono ?_;rintro e w' ⟨rfl,rfl⟩)
     go_ret
     exact⟨by rw[HR.out];rfl,rfl⟩
  · have hkn : k = rn dN (sb s) := by omega
    have HR:=Lib.hid hkn
    have hd:decide (k<s.size)=false:=by simp;omega
    clear hkn hrd hlt
    go_wp2
    go_ret
    exact⟨by rw[←HR.out];rfl,rfl⟩
abbrev xA (code at_:Int):Ending:=.panicked [{ v:=.iface 103 (.agg #[.int .i64 code,.int .i64 at_]),recovered:=false }]
abbrev nQ (q:Nat):Value:=.func (Fn.func 51) #[] #[.pointer (some ⟨q,0,none⟩)]
theorem wB (q:Nat) (a b:Int) (w:World) (hq:w.heap[q]? = some (.cells #[.int .i64 b] 3 (0,0))) :
 Calls Tryz.prog 51 #[.int .i64 a,.pointer (some ⟨q,0,none⟩)] w fun e w'=>e=xA 2 (min a b)∧w=w':=by
 obtain⟨c1,z1⟩:=aj hq
 clear hq
 go_enter Tryz.func51,Tryz.ntmps51
 go_wp2
 exact⟨rfl,rfl,rfl⟩
def OC (s:ByteArray) (a b:Nat) (w:World) (e:Ending) (w':World):Prop:=
 (∃n,ex false ((sb s).drop (a+1))=some n∧e=.returned (.string (s.extract (a+1) (a+1+n)))∧Below w.heap.size w w') ∨
 (ex false ((sb s).drop (a+1))=none∧e=xA 2 (min (a:Int) b)∧w=w')
theorem CU (s:ByteArray) (a b q:Nat) (w:World) (hs:s.size≤100000) (ha:a<s.size) (hq:w.heap[q]? = some (.cells #[.int .i64 b] 3 (0,0))) :
 Calls Tryz.prog 83 #[.string s,.int .i64 a,nQ q] w (OC s a b w):=by
 have HQ:=Lib.hid hq
 clear hq
 go_enter Tryz.func83,Tryz.ntmps83
 go_wp2_with fail
 go_loop [7] (fun n=>∃i:Nat,a+1≤i∧i≤s.size∧n=.int .i64 i∧ex false ((sb s).drop (a+1))=(ex false ((sb s).drop i)).map (· + (i-(a+1)))) (fun n=>s.size-(intOf n).toNat)
 case atStart=>exact⟨a+1,Nat.le_refl _,by omega,by go_num,by simp⟩
 case round=>
  obtain⟨i,h1,h2,rfl,he⟩:=hrel
  by_cases hlt:i<s.size
  · rw [gy s i hlt] at he
    by_cases c10:(s[i].toNat:Int)=10
    · have t1 : ((s[i].toNat : Int) != 10) = false := by simp [c10]
      have hn:ex false ((sb s).drop (a+1))=none:=by rw[he,ex,if_pos c10];rfl
      have HN:=Lib.hid hn
      clear he c10 hn
      go_wp2_with fail
      refine(wB q a b _ HQ.out).mono ?_
      rintro e w' ⟨rfl,rfl⟩
      go_wp2
      exact⟨rfl,.inr ⟨HN.out,rfl,rfl⟩⟩
    have t1:((s[i].toNat:Int) != 10)=true:=by simp only[bne_iff_ne];exact c10
    by_cases gZ:(s[i].toNat:Int)=47
    · have t2 : ((s[i].toNat : Int) == 47) = true := by simp [gZ]
      have hn:ex false ((sb s).drop (a+1))=some (i-(a+1)):=by rw[he,ex,if_neg c10,if_neg (by decide),if_pos gZ];simp
      have HN:=Lib.hid hn
      clear he c10 gZ hn
      go_wp2_with fail
      refine(uF _ _ (by simp;omega)).mono ?_
      rintro e w1 ⟨rfl,hb1⟩
      go_wp2
      go_ret
      exact .inl ⟨_,HN.out,by rw[show a+1+(i-(a+1))=i from by omega];rfl,hb1⟩
    have t2:((s[i].toNat:Int) == 47)=false:=by simpa using gZ
    by_cases Bl:(s[i].toNat:Int)=92
    · have t3 : ((s[i].toNat : Int) == 92) = true := by simp [Bl]
      by_cases hl2:i+1<s.size
      · by_cases Fw : (s[i + 1].toNat : Int) = 10
        · have t4 : ((s[i + 1].toNat : Int) != 10) = false := by simp [Fw]
          have hn : ex false ((sb s).drop (a + 1)) = (ex false ((sb s).drop (i + 1))).map (· + (i + 1 - (a + 1))) := by
           rw[he,ex,if_neg c10,if_neg (by decide),if_neg gZ,Bl,gy s (i+1) hl2,ex,if_pos Fw,ex,if_pos Fw];rfl
          have HN:=Lib.hid hn
          clear he c10 gZ Bl Fw hn
          go_wp2
          go_round
          case rel=>exact⟨i+1,by omega,by omega,by go_num,HN.out⟩
          case measure=>simp[intOf];omega
        · have t4 : ((s[i + 1].toNat : Int) != 10) = true := by simp only [bne_iff_ne]; exact Fw
          have hn : ex false ((sb s).drop (a + 1)) = (ex false ((sb s).drop (i + 2))).map (· + (i + 2 - (a + 1))) := by
           rw[he,ex,if_neg c10,if_neg (by decide),if_neg gZ,Bl,gy s (i+1) hl2,ex,if_neg Fw]
           simp only[decide_true,if_true,Option.map_map]
           congr 1;funext x;simp only[Function.comp];omega
          have HN:=Lib.hid hn
          clear he c10 gZ Bl Fw hn
          go_wp2
          go_round
          case rel=>exact⟨i+2,by omega,by omega,by go_num,HN.out⟩
          case measure=>simp[intOf];omega
      · have hn : ex false ((sb s).drop (a + 1)) = (ex false ((sb s).drop (i + 1))).map (· + (i + 1 - (a + 1))) := by
         have hd:(sb s).drop (i+1)=[]:=by rw[List.drop_eq_nil_iff,bg];omega
         rw[he,ex,if_neg c10,if_neg (by decide),if_neg gZ,hd];rfl
        have HN:=Lib.hid hn
        clear he c10 gZ Bl hn
        go_wp2
        go_round
        case rel=>exact⟨i+1,by omega,by omega,by go_num,HN.out⟩
        case measure=>simp[intOf];omega
    · have t3 : ((s[i].toNat : Int) == 92) = false := by simpa using Bl
      have hn : ex false ((sb s).drop (a + 1)) = (ex false ((sb s).drop (i + 1))).map (· + (i + 1 - (a + 1))) := by
       rw[he,ex,if_neg c10,if_neg (by decide),if_neg gZ,decide_eq_false Bl,Option.map_map]
       congr 1;funext x;simp only[Function.comp];omega
      have HN:=Lib.hid hn
      clear he c10 gZ Bl hn
      go_wp2
      go_round
      case rel=>exact⟨i+1,by omega,by omega,by go_num,HN.out⟩
      case measure=>simp[intOf];omega
  · have hi : (sb s).drop i = [] := by rw [List.drop_eq_nil_iff, bg]; omega
    have hn:ex false ((sb s).drop (a+1))=none:=by rw[he,hi];rfl
    have HN:=Lib.hid hn
    have hd:decide (i<s.size)=false:=by simp;omega
    clear he hi hn hlt
    go_wp2_with fail
    refine(wB q a b _ HQ.out).mono ?_
    rintro e w' ⟨rfl,rfl⟩
    go_wp2
    exact⟨rfl,.inr ⟨HN.out,rfl,rfl⟩⟩
theorem KD (s:ByteArray) (a b:Nat):sb (s.extract a b)=((sb s).drop a).take (b-a):=by
 unfold sb
 rw[Lib.extract_data,List.map_take,List.map_drop]
theorem CV (s:ByteArray) (a:Nat):sb (s.extract a s.size)=(sb s).drop a:=by
 rw[KD,List.take_of_length_le (by simp[bg])]
theorem ext_nil (s:ByteArray) (a:Nat):s.extract a a=ByteArray.empty:=by
 rw[Lib.extract_eq];simp;rfl
theorem JA:∀n:Nat,n<256→decide (0≤Lib.indexByte [123,125,40,41,124,42,94,60,62,58,95,61] n.toUInt8)=vL n:=by decide +kernel
def iJ (s:ByteArray) (a:Nat) (x:Wt):List Value:=[.int .i64 x.k,.string (s.extract (a+x.o) (a+x.o+x.n)),.int .i64 (if x.k=0 then 0 else (a:Int))]
def jk (s:ByteArray) (a b:Nat) (w:World) (e:Ending) (w':World):Prop:=
 (∃x,wd ((sb s).drop a)=some x∧e=.returned (.tuple #[.agg (iJ s a x).toArray,.int .i64 x.z])∧Below w.heap.size w w') ∨
 (wd ((sb s).drop a)=none∧e=xA 2 (min (a:Int) b)∧Below w.heap.size w w')
theorem mW {s:ByteArray} {a b:Nat} {w w':World} {e:Ending} (x:Wt) (h:wd ((sb s).drop a)=some x) (he:e=.returned (.tuple #[.agg (iJ s a x).toArray,.int .i64 x.z])) (hb:Below w.heap.size w w'):jk s a b w e w':=.inl ⟨x,h,he,hb⟩
theorem gD {w:World} {p:Nat} {a b c:Value} {t:TypeId} (h:w.heap[p]? = some (.cells #[a,b,c] t (0,0))) :
 (w.cell? ⟨p,0,none⟩=some a∧w.cell? ⟨p,1,none⟩=some b∧w.cell? ⟨p,2,none⟩=some c)∧w.frozen? ⟨p,0,none⟩=false∧w.frozen? ⟨p,1,none⟩=false∧w.frozen? ⟨p,2,none⟩=false:=by
 simp[World.cell?,World.frozen?,h]
theorem Mf {s:ByteArray} {a b:Nat} {w w':World} (h:wd ((sb s).drop a)=none) (hb:Below w.heap.size w w'):jk s a b w (xA 2 (min (a:Int) b)) w':=.inr ⟨h,rfl,hb⟩
theorem wC {w w1:World} {o:Obj} (hb:Below (w.alloc o).heap.size (w.alloc o) w1):w1.heap[w.heap.size]? = some o∧Below w.heap.size w w1∧w.heap.size<w1.heap.size:=by
 refine⟨?_,?_,?_⟩
 · rw[hb.block w.heap.size (by simp)];exact heap_alloc_new w o
 · exact(ah (Below.refl _ _) o).trans (hb.mono (by simp))
 · have:=hb.size;simp at this;omega
theorem Sw (s:ByteArray) (a b q:Nat) (w:World) (hs:s.size≤100000) (ha:a<s.size) (hq:w.heap[q]? = some (.cells #[.int .i64 b] 3 (0,0))) (c32:(s[a].toNat:Int)=32) :
 Calls Tryz.prog 52 #[.string s,.int .i64 a,nQ q] w (jk s a b w):=by
 have HQ:=Lib.hid hq
 have hD:=gy s a ha
 have HD:=Lib.hid hD
 have hq1:(w.alloc (.cells #[.int .i64 0,.string ⟨#[]⟩,.int .i64 0] 72)).heap[q]? = some (.cells #[.int .i64 b] 3 (0,0)):=by
  rw[Below.heap_alloc _ _ _ (by rcases Nat.lt_or_ge q w.heap.size with h|h;exact h;simp[h] at hq)];exact hq
 have kR:=Lib.hid hq1
 clear hq hD hq1
 have t32:((s[a].toNat:Int) == 32)=true:=by simp[c32]
 have hw:wd ((sb s).drop a)=some ⟨0,0,0,1⟩:=by rw[HD.out,wd,if_pos (.inl c32)]
 have HW:=Lib.hid hw
 clear hw c32
 go_enter Tryz.func52,Tryz.ntmps52
 go_wp2
 refine bodyPost_ret (v:=.tuple #[.agg (iJ s a ⟨0,0,0,1⟩).toArray,.int .i64 1]) (by simp[results,Tryz.results52,go_sem,iJ,ext_nil];try rfl) rfl (mW _ HW.out rfl (by first|exact ah (Below.refl _ _) _|exact(((ah (Below.refl _ _) _).setCell (Nat.le_refl _) _).setCell (Nat.le_refl _) _).setCell (Nat.le_refl _) _))
theorem Uu (s:ByteArray) (a b q:Nat) (w:World) (hs:s.size≤100000) (ha:a<s.size) (hq:w.heap[q]? = some (.cells #[.int .i64 b] 3 (0,0))) (c32:¬(s[a].toNat:Int)=32) (c9:(s[a].toNat:Int)=9) :
 Calls Tryz.prog 52 #[.string s,.int .i64 a,nQ q] w (jk s a b w):=by
 have HQ:=Lib.hid hq
 have hD:=gy s a ha
 have HD:=Lib.hid hD
 have hq1:(w.alloc (.cells #[.int .i64 0,.string ⟨#[]⟩,.int .i64 0] 72)).heap[q]? = some (.cells #[.int .i64 b] 3 (0,0)):=by
  rw[Below.heap_alloc _ _ _ (by rcases Nat.lt_or_ge q w.heap.size with h|h;exact h;simp[h] at hq)];exact hq
 have kR:=Lib.hid hq1
 clear hq hD hq1
 have t32:((s[a].toNat:Int) == 32)=false:=by simpa using c32
 have t9:((s[a].toNat:Int) == 9)=true:=by simp[c9]
 have hw:wd ((sb s).drop a)=some ⟨0,0,0,1⟩:=by rw[HD.out,wd,if_pos (.inr (.inl c9))]
 have HW:=Lib.hid hw
 clear hw c32 c9
 go_enter Tryz.func52,Tryz.ntmps52
 go_wp2
 refine bodyPost_ret (v:=.tuple #[.agg (iJ s a ⟨0,0,0,1⟩).toArray,.int .i64 1]) (by simp[results,Tryz.results52,go_sem,iJ,ext_nil];try rfl) rfl (mW _ HW.out rfl (by first|exact ah (Below.refl _ _) _|exact(((ah (Below.refl _ _) _).setCell (Nat.le_refl _) _).setCell (Nat.le_refl _) _).setCell (Nat.le_refl _) _))
theorem Sy (s:ByteArray) (a b q:Nat) (w:World) (hs:s.size≤100000) (ha:a<s.size) (hq:w.heap[q]? = some (.cells #[.int .i64 b] 3 (0,0))) (c32:¬(s[a].toNat:Int)=32) (c9:¬(s[a].toNat:Int)=9) (c13:(s[a].toNat:Int)=13) :
 Calls Tryz.prog 52 #[.string s,.int .i64 a,nQ q] w (jk s a b w):=by
 have HQ:=Lib.hid hq
 have hD:=gy s a ha
 have HD:=Lib.hid hD
 have hq1:(w.alloc (.cells #[.int .i64 0,.string ⟨#[]⟩,.int .i64 0] 72)).heap[q]? = some (.cells #[.int .i64 b] 3 (0,0)):=by
  rw[Below.heap_alloc _ _ _ (by rcases Nat.lt_or_ge q w.heap.size with h|h;exact h;simp[h] at hq)];exact hq
 have kR:=Lib.hid hq1
 clear hq hD hq1
 have t32:((s[a].toNat:Int) == 32)=false:=by simpa using c32
 have t9:((s[a].toNat:Int) == 9)=false:=by simpa using c9
 have Fx:((s[a].toNat:Int) == 13)=true:=by simp[c13]
 have hw:wd ((sb s).drop a)=some ⟨0,0,0,1⟩:=by rw[HD.out,wd,if_pos (.inr (.inr c13))]
 have HW:=Lib.hid hw
 clear hw c32 c9 c13
 go_enter Tryz.func52,Tryz.ntmps52
 go_wp2
 refine bodyPost_ret (v:=.tuple #[.agg (iJ s a ⟨0,0,0,1⟩).toArray,.int .i64 1]) (by simp[results,Tryz.results52,go_sem,iJ,ext_nil];try rfl) rfl (mW _ HW.out rfl (by first|exact ah (Below.refl _ _) _|exact(((ah (Below.refl _ _) _).setCell (Nat.le_refl _) _).setCell (Nat.le_refl _) _).setCell (Nat.le_refl _) _))
theorem Sz (s:ByteArray) (a b q:Nat) (w:World) (hs:s.size≤100000) (ha:a<s.size) (hq:w.heap[q]? = some (.cells #[.int .i64 b] 3 (0,0))) (c32:¬(s[a].toNat:Int)=32) (c9:¬(s[a].toNat:Int)=9) (c13:¬(s[a].toNat:Int)=13) (iL:(s[a].toNat:Int)=35) :
 Calls Tryz.prog 52 #[.string s,.int .i64 a,nQ q] w (jk s a b w):=by
 have HQ:=Lib.hid hq
 have hD:=gy s a ha
 have HD:=Lib.hid hD
 have hq1:(w.alloc (.cells #[.int .i64 0,.string ⟨#[]⟩,.int .i64 0] 72)).heap[q]? = some (.cells #[.int .i64 b] 3 (0,0)):=by
  rw[Below.heap_alloc _ _ _ (by rcases Nat.lt_or_ge q w.heap.size with h|h;exact h;simp[h] at hq)];exact hq
 have kR:=Lib.hid hq1
 clear hq hD hq1
 have t32:((s[a].toNat:Int) == 32)=false:=by simpa using c32
 have t9:((s[a].toNat:Int) == 9)=false:=by simpa using c9
 have Fx:((s[a].toNat:Int) == 13)=false:=by simpa using c13
 have t35:((s[a].toNat:Int) == 35)=true:=by simp[iL]
 have hw:wd ((sb s).drop a)=some ⟨0,0,0,rn lW ((sb s).drop a)⟩:=by rw[HD.out,wd,if_neg (by omega),if_pos iL]
 have HW:=Lib.hid hw
 have hrl:=qI lW ((sb s).drop a)
 rw[List.length_drop,bg] at hrl
 clear hw c32 c9 c13 iL
 go_enter Tryz.func52,Tryz.ntmps52
 go_wp2_with fail
 refine(Md _ _ (by simp;omega)).mono ?_
 rintro e w' ⟨rfl,rfl⟩
 rw[CV]
 obtain⟨z,hz⟩:∃z,z=rn lW ((sb s).drop a):=⟨_,rfl⟩
 rw[←hz] at HW hrl ⊢
 clear hz
 go_wp2
 refine bodyPost_ret (v:=.tuple #[.agg (iJ s a ⟨0,0,0,z⟩).toArray,.int .i64 z]) (by simp[results,Tryz.results52,go_sem,iJ,ext_nil];try rfl) rfl (mW _ HW.out rfl (by first|exact ah (Below.refl _ _) _|exact(((ah (Below.refl _ _) _).setCell (Nat.le_refl _) _).setCell (Nat.le_refl _) _).setCell (Nat.le_refl _) _))
theorem SA (s:ByteArray) (a b q:Nat) (w:World) (hs:s.size≤100000) (ha:a<s.size) (hq:w.heap[q]? = some (.cells #[.int .i64 b] 3 (0,0))) (c32:¬(s[a].toNat:Int)=32) (c9:¬(s[a].toNat:Int)=9) (c13:¬(s[a].toNat:Int)=13) (iL:¬(s[a].toNat:Int)=35) (c10:(s[a].toNat:Int)=10) :
 Calls Tryz.prog 52 #[.string s,.int .i64 a,nQ q] w (jk s a b w):=by
 have HQ:=Lib.hid hq
 have hD:=gy s a ha
 have HD:=Lib.hid hD
 have hq1:(w.alloc (.cells #[.int .i64 0,.string ⟨#[]⟩,.int .i64 0] 72)).heap[q]? = some (.cells #[.int .i64 b] 3 (0,0)):=by
  rw[Below.heap_alloc _ _ _ (by rcases Nat.lt_or_ge q w.heap.size with h|h;exact h;simp[h] at hq)];exact hq
 have kR:=Lib.hid hq1
 clear hq hD hq1
 have t32:((s[a].toNat:Int) == 32)=false:=by simpa using c32
 have t9:((s[a].toNat:Int) == 9)=false:=by simpa using c9
 have Fx:((s[a].toNat:Int) == 13)=false:=by simpa using c13
 have t35:((s[a].toNat:Int) == 35)=false:=by simpa using iL
 have t10:((s[a].toNat:Int) == 10)=true:=by simp[c10]
 have hw:wd ((sb s).drop a)=some ⟨5,0,0,1⟩:=by rw[HD.out,wd,if_neg (by omega),if_neg iL,if_pos c10]
 have HW:=Lib.hid hw
 clear hw c32 c9 c13 iL c10
 go_enter Tryz.func52,Tryz.ntmps52
 go_wp2
 refine bodyPost_ret (v:=.tuple #[.agg (iJ s a ⟨5,0,0,1⟩).toArray,.int .i64 1]) (by simp[results,Tryz.results52,go_sem,iJ,ext_nil];try rfl) rfl (mW _ HW.out rfl (by first|exact ah (Below.refl _ _) _|exact(((ah (Below.refl _ _) _).setCell (Nat.le_refl _) _).setCell (Nat.le_refl _) _).setCell (Nat.le_refl _) _))
theorem SB (s:ByteArray) (a b q:Nat) (w:World) (hs:s.size≤100000) (ha:a<s.size) (hq:w.heap[q]? = some (.cells #[.int .i64 b] 3 (0,0))) (c32:¬(s[a].toNat:Int)=32) (c9:¬(s[a].toNat:Int)=9) (c13:¬(s[a].toNat:Int)=13) (iL:¬(s[a].toNat:Int)=35) (c10:¬(s[a].toNat:Int)=10) (gZ:(s[a].toNat:Int)=47) :
 Calls Tryz.prog 52 #[.string s,.int .i64 a,nQ q] w (jk s a b w):=by
 have HQ:=Lib.hid hq
 have hD:=gy s a ha
 have HD:=Lib.hid hD
 have hq1:(w.alloc (.cells #[.int .i64 0,.string ⟨#[]⟩,.int .i64 0] 72)).heap[q]? = some (.cells #[.int .i64 b] 3 (0,0)):=by
  rw[Below.heap_alloc _ _ _ (by rcases Nat.lt_or_ge q w.heap.size with h|h;exact h;simp[h] at hq)];exact hq
 have kR:=Lib.hid hq1
 clear hq hD hq1
 have t32:((s[a].toNat:Int) == 32)=false:=by simpa using c32
 have t9:((s[a].toNat:Int) == 9)=false:=by simpa using c9
 have Fx:((s[a].toNat:Int) == 13)=false:=by simpa using c13
 have t35:((s[a].toNat:Int) == 35)=false:=by simpa using iL
 have t10:((s[a].toNat:Int) == 10)=false:=by simpa using c10
 have t47:((s[a].toNat:Int) == 47)=true:=by simp[gZ]
 have hw:wd ((sb s).drop a)=(ex false ((sb s).drop (a+1))).map fun n=>⟨4,1,n,n+2⟩:=by rw[HD.out,wd,if_neg (by omega),if_neg iL,if_neg c10,if_pos gZ]
 have HW:=Lib.hid hw
 clear hw c32 c9 c13 iL c10 gZ
 go_enter Tryz.func52,Tryz.ntmps52
 go_wp2_with fail
 refine(CU s a b q _ hs ha kR.out).mono ?_
 rintro e w1 (⟨n,hn,rfl,hb1⟩|⟨hn,rfl,rfl⟩)
 · have hx := Jy hn
   have hnl:a+1+n<s.size:=by have:=hx.1;rw[List.length_drop,bg] at this;omega
   rw[hn] at HW
   obtain⟨hk,hB,hz⟩:=wC hb1
   obtain⟨⟨k0,k1,k2⟩,f0,f1,f2⟩:=gD hk
   have hxs:(s.extract (a+1) (a+1+n)).size=n:=by simp;omega
   have HB:=Lib.hid hB
   obtain⟨tx,htx⟩:∃tx,tx=s.extract (a+1) (a+1+n):=⟨_,rfl⟩
   rw[←htx] at hxs ⊢
   have HT:=Lib.hid htx
   have HS:=Lib.hid hxs
   have hts:tx.size≤100000:=by omega
   clear hk hb1 hB hn hx htx hxs
   go_wp2
   rw[HS.out]
   refine bodyPost_ret (v:=.tuple #[.agg (iJ s a ⟨4,1,n,n+2⟩).toArray,.int .i64 ((n+2:Nat):Int)]) (by simp[results,Tryz.results52,go_sem,iJ,←HT.out,f0,f1,f2,k0,k1,k2,hz]) rfl (mW _ HW.out rfl (((HB.out.setCell (Nat.le_refl _) _).setCell (Nat.le_refl _) _).setCell (Nat.le_refl _) _))
 · rw [hn] at HW
   go_wp2
   exact⟨rfl,Mf HW.out (ah (Below.refl _ _) _)⟩
theorem SC (s:ByteArray) (a b q:Nat) (w:World) (hs:s.size≤100000) (ha:a<s.size) (hq:w.heap[q]? = some (.cells #[.int .i64 b] 3 (0,0))) (c32:¬(s[a].toNat:Int)=32) (c9:¬(s[a].toNat:Int)=9) (c13:¬(s[a].toNat:Int)=13) (iL:¬(s[a].toNat:Int)=35) (c10:¬(s[a].toNat:Int)=10) (gZ:¬(s[a].toNat:Int)=47) (cl:kZ (s[a].toNat:Int)=true) :
 Calls Tryz.prog 52 #[.string s,.int .i64 a,nQ q] w (jk s a b w):=by
 have HQ:=Lib.hid hq
 have hD:=gy s a ha
 have HD:=Lib.hid hD
 have hq1:(w.alloc (.cells #[.int .i64 0,.string ⟨#[]⟩,.int .i64 0] 72)).heap[q]? = some (.cells #[.int .i64 b] 3 (0,0)):=by
  rw[Below.heap_alloc _ _ _ (by rcases Nat.lt_or_ge q w.heap.size with h|h;exact h;simp[h] at hq)];exact hq
 have kR:=Lib.hid hq1
 clear hq hD hq1
 have t32:((s[a].toNat:Int) == 32)=false:=by simpa using c32
 have t9:((s[a].toNat:Int) == 9)=false:=by simpa using c9
 have Fx:((s[a].toNat:Int) == 13)=false:=by simpa using c13
 have t35:((s[a].toNat:Int) == 35)=false:=by simpa using iL
 have t10:((s[a].toNat:Int) == 10)=false:=by simpa using c10
 have t47:((s[a].toNat:Int) == 47)=false:=by simpa using gZ
 have hw:wd ((sb s).drop a)=some ⟨1,0,rn eD ((sb s).drop a),rn eD ((sb s).drop a)⟩:=by rw[HD.out,wd,if_neg (by omega),if_neg iL,if_neg c10,if_neg gZ,if_pos cl]
 have HW:=Lib.hid hw
 have hrl:=qI eD ((sb s).drop a)
 rw[List.length_drop,bg] at hrl
 have Mg:1≤rn eD ((sb s).drop a):=by rw[HD.out];exact vE (by simp[eD,cl])
 have hcl:=fun w=>lJ (s[a].toNat:Int) w
 rw[cl] at hcl
 have ni:=Lib.hid hcl
 clear hw hcl cl  c32 c9 c13 iL c10 gZ
 go_enter Tryz.func52,Tryz.ntmps52
 go_wp2_with fail
 refine(ni.out _).mono ?_
 rintro e w' ⟨rfl,rfl⟩
 go_wp2_with fail
 refine(KC _ _ (by simp;omega)).mono ?_
 rintro e w' ⟨rfl,rfl⟩
 rw[CV]
 obtain⟨z,hz⟩:∃z,z=rn eD ((sb s).drop a):=⟨_,rfl⟩
 rw[←hz] at HW hrl Mg ⊢
 clear hz
 have hii:(0:Int)≤(a:Int):=by omega
 have hij:(a:Int)≤(a:Int)+(z:Int):=by omega
 have hik:(a:Int)+(z:Int)≤(s.size:Int):=by omega
 go_wp2_with fail
 refine(uF _ _ (by simp;omega)).mono ?_
 rintro e w1 ⟨rfl,hb1⟩
 obtain⟨hk,hB,hzz⟩:=wC hb1
 obtain⟨⟨k0,k1,k2⟩,f0,f1,f2⟩:=gD hk
 have HB:=Lib.hid hB
 have hto:((a:Int)+(z:Int)).toNat=a+z:=by omega
 have YZ:((a:Int)).toNat=a:=by omega
 clear hk hb1 hB
 go_wp2
 refine bodyPost_ret (v:=.tuple #[.agg (iJ s a ⟨1,0,z,z⟩).toArray,.int .i64 z]) (by simp[results,Tryz.results52,go_sem,iJ,f0,f1,f2,k0,k1,k2,hzz]) rfl (mW _ HW.out rfl (((HB.out.setCell (Nat.le_refl _) _).setCell (Nat.le_refl _) _).setCell (Nat.le_refl _) _))
theorem SE (s:ByteArray) (a b q:Nat) (w:World) (hs:s.size≤100000) (ha:a<s.size) (hq:w.heap[q]? = some (.cells #[.int .i64 b] 3 (0,0))) (c32:¬(s[a].toNat:Int)=32) (c9:¬(s[a].toNat:Int)=9) (c13:¬(s[a].toNat:Int)=13) (iL:¬(s[a].toNat:Int)=35) (c10:¬(s[a].toNat:Int)=10) (gZ:¬(s[a].toNat:Int)=47) (cl:kZ (s[a].toNat:Int)=false) (cd:dN (s[a].toNat:Int)=true) :
 Calls Tryz.prog 52 #[.string s,.int .i64 a,nQ q] w (jk s a b w):=by
 have HQ:=Lib.hid hq
 have hD:=gy s a ha
 have HD:=Lib.hid hD
 have hq1:(w.alloc (.cells #[.int .i64 0,.string ⟨#[]⟩,.int .i64 0] 72)).heap[q]? = some (.cells #[.int .i64 b] 3 (0,0)):=by
  rw[Below.heap_alloc _ _ _ (by rcases Nat.lt_or_ge q w.heap.size with h|h;exact h;simp[h] at hq)];exact hq
 have kR:=Lib.hid hq1
 clear hq hD hq1
 have t32:((s[a].toNat:Int) == 32)=false:=by simpa using c32
 have t9:((s[a].toNat:Int) == 9)=false:=by simpa using c9
 have Fx:((s[a].toNat:Int) == 13)=false:=by simpa using c13
 have t35:((s[a].toNat:Int) == 35)=false:=by simpa using iL
 have t10:((s[a].toNat:Int) == 10)=false:=by simpa using c10
 have t47:((s[a].toNat:Int) == 47)=false:=by simpa using gZ
 have hw:wd ((sb s).drop a)=some ⟨2,0,rn dN ((sb s).drop a),rn dN ((sb s).drop a)⟩:=by rw[HD.out,wd,if_neg (by omega),if_neg iL,if_neg c10,if_neg gZ,if_neg (by rw[cl];decide),if_pos cd]
 have HW:=Lib.hid hw
 have hrl:=qI dN ((sb s).drop a)
 rw[List.length_drop,bg] at hrl
 have Mg:1≤rn dN ((sb s).drop a):=by rw[HD.out];exact vE (by exact cd)
 have hcl:=fun w=>lJ (s[a].toNat:Int) w
 rw[cl] at hcl
 have ni:=Lib.hid hcl
 have hcd:=fun w=>nI (s[a].toNat:Int) w
 rw[cd] at hcd
 have Mh:=Lib.hid hcd
 clear hw hcl cl hcd cd c32 c9 c13 iL c10 gZ
 go_enter Tryz.func52,Tryz.ntmps52
 go_wp2_with fail
 refine(ni.out _).mono ?_
 rintro e w' ⟨rfl,rfl⟩
 go_wp2_with fail
 refine(Mh.out _).mono ?_
 rintro e w' ⟨rfl,rfl⟩
 go_wp2_with fail
 refine(Me _ _ (by simp;omega)).mono ?_
 rintro e w' ⟨rfl,rfl⟩
 rw[CV]
 obtain⟨z,hz⟩:∃z,z=rn dN ((sb s).drop a):=⟨_,rfl⟩
 rw[←hz] at HW hrl Mg ⊢
 clear hz
 have hii:(0:Int)≤(a:Int):=by omega
 have hij:(a:Int)≤(a:Int)+(z:Int):=by omega
 have hik:(a:Int)+(z:Int)≤(s.size:Int):=by omega
 go_wp2_with fail
 refine(uF _ _ (by simp;omega)).mono ?_
 rintro e w1 ⟨rfl,hb1⟩
 obtain⟨hk,hB,hzz⟩:=wC hb1
 obtain⟨⟨k0,k1,k2⟩,f0,f1,f2⟩:=gD hk
 have HB:=Lib.hid hB
 have hto:((a:Int)+(z:Int)).toNat=a+z:=by omega
 have YZ:((a:Int)).toNat=a:=by omega
 clear hk hb1 hB
 go_wp2
 refine bodyPost_ret (v:=.tuple #[.agg (iJ s a ⟨2,0,z,z⟩).toArray,.int .i64 z]) (by simp[results,Tryz.results52,go_sem,iJ,f0,f1,f2,k0,k1,k2,hzz]) rfl (mW _ HW.out rfl (((HB.out.setCell (Nat.le_refl _) _).setCell (Nat.le_refl _) _).setCell (Nat.le_refl _) _))
theorem OD (s:ByteArray) (a b q:Nat) (w:World) (hs:s.size≤100000) (ha:a<s.size) (hq:w.heap[q]? = some (.cells #[.int .i64 b] 3 (0,0))) (c32:¬(s[a].toNat:Int)=32) (c9:¬(s[a].toNat:Int)=9) (c13:¬(s[a].toNat:Int)=13) (iL:¬(s[a].toNat:Int)=35) (c10:¬(s[a].toNat:Int)=10) (gZ:¬(s[a].toNat:Int)=47) (cl:kZ (s[a].toNat:Int)=false) (cd:dN (s[a].toNat:Int)=false) (cs:vL (s[a].toNat:Int)=true) :
 Calls Tryz.prog 52 #[.string s,.int .i64 a,nQ q] w (jk s a b w):=by
 have HQ:=Lib.hid hq
 have hD:=gy s a ha
 have HD:=Lib.hid hD
 have hq1:(w.alloc (.cells #[.int .i64 0,.string ⟨#[]⟩,.int .i64 0] 72)).heap[q]? = some (.cells #[.int .i64 b] 3 (0,0)):=by
  rw[Below.heap_alloc _ _ _ (by rcases Nat.lt_or_ge q w.heap.size with h|h;exact h;simp[h] at hq)];exact hq
 have kR:=Lib.hid hq1
 clear hq hD hq1
 have t32:((s[a].toNat:Int) == 32)=false:=by simpa using c32
 have t9:((s[a].toNat:Int) == 9)=false:=by simpa using c9
 have Fx:((s[a].toNat:Int) == 13)=false:=by simpa using c13
 have t35:((s[a].toNat:Int) == 35)=false:=by simpa using iL
 have t10:((s[a].toNat:Int) == 10)=false:=by simpa using c10
 have t47:((s[a].toNat:Int) == 47)=false:=by simpa using gZ
 have hw:wd ((sb s).drop a)=some ⟨3,0,1,1⟩:=by rw[HD.out,wd,if_neg (by omega),if_neg iL,if_neg c10,if_neg gZ,if_neg (by rw[cl];decide),if_neg (by rw[cd];decide),if_pos cs]
 have HW:=Lib.hid hw
 have hcl:=fun w=>lJ (s[a].toNat:Int) w
 rw[cl] at hcl
 have ni:=Lib.hid hcl
 have hcd:=fun w=>nI (s[a].toNat:Int) w
 rw[cd] at hcd
 have Mh:=Lib.hid hcd
 have hsx:=JA s[a].toNat (by have:=s[a].toNat_lt;omega)
 rw[cs] at hsx
 obtain⟨ix,hix⟩:∃ix,ix=Lib.indexByte [123,125,40,41,124,42,94,60,62,58,95,61] s[a].toNat.toUInt8:=⟨_,rfl⟩
 rw[←hix] at hsx
 have HX:=Lib.hid hix
 clear hw hcl cl hcd cd cs hix c32 c9 c13 iL c10 gZ
 go_enter Tryz.func52,Tryz.ntmps52
 go_wp2_with fail
 refine(ni.out _).mono ?_
 rintro e w' ⟨rfl,rfl⟩
 go_wp2_with fail
 refine(Mh.out _).mono ?_
 rintro e w' ⟨rfl,rfl⟩
 go_wp2_with fail
 refine(Any.strings_IndexByte Tryz.indexB _ _ _).mono ?_
 rintro e w' ⟨rfl,rfl⟩
 simp only[Int.toNat_natCast]
 rw[←HX.out]
 have hii:(0:Int)≤(a:Int):=by omega
 have hij:(a:Int)≤(a:Int)+1:=by omega
 have hik:(a:Int)+1≤(s.size:Int):=by omega
 go_wp2_with fail
 refine(uF _ _ (by simp;omega)).mono ?_
 rintro e w1 ⟨rfl,hb1⟩
 obtain⟨hk,hB,hzz⟩:=wC hb1
 obtain⟨⟨k0,k1,k2⟩,f0,f1,f2⟩:=gD hk
 have HB:=Lib.hid hB
 clear hk hb1 hB
 go_wp2
 refine bodyPost_ret (v:=.tuple #[.agg (iJ s a ⟨3,0,1,1⟩).toArray,.int .i64 1]) (by simp[results,Tryz.results52,go_sem,iJ,f0,f1,f2,k0,k1,k2,hzz]) rfl (mW _ HW.out rfl (((HB.out.setCell (Nat.le_refl _) _).setCell (Nat.le_refl _) _).setCell (Nat.le_refl _) _))
theorem OE (s:ByteArray) (a b q:Nat) (w:World) (hs:s.size≤100000) (ha:a<s.size) (hq:w.heap[q]? = some (.cells #[.int .i64 b] 3 (0,0))) (c32:¬(s[a].toNat:Int)=32) (c9:¬(s[a].toNat:Int)=9) (c13:¬(s[a].toNat:Int)=13) (iL:¬(s[a].toNat:Int)=35) (c10:¬(s[a].toNat:Int)=10) (gZ:¬(s[a].toNat:Int)=47) (cl:kZ (s[a].toNat:Int)=false) (cd:dN (s[a].toNat:Int)=false) (cs:vL (s[a].toNat:Int)=false) :
 Calls Tryz.prog 52 #[.string s,.int .i64 a,nQ q] w (jk s a b w):=by
 have HQ:=Lib.hid hq
 have hD:=gy s a ha
 have HD:=Lib.hid hD
 have hq1:(w.alloc (.cells #[.int .i64 0,.string ⟨#[]⟩,.int .i64 0] 72)).heap[q]? = some (.cells #[.int .i64 b] 3 (0,0)):=by
  rw[Below.heap_alloc _ _ _ (by rcases Nat.lt_or_ge q w.heap.size with h|h;exact h;simp[h] at hq)];exact hq
 have kR:=Lib.hid hq1
 clear hq hD hq1
 have t32:((s[a].toNat:Int) == 32)=false:=by simpa using c32
 have t9:((s[a].toNat:Int) == 9)=false:=by simpa using c9
 have Fx:((s[a].toNat:Int) == 13)=false:=by simpa using c13
 have t35:((s[a].toNat:Int) == 35)=false:=by simpa using iL
 have t10:((s[a].toNat:Int) == 10)=false:=by simpa using c10
 have t47:((s[a].toNat:Int) == 47)=false:=by simpa using gZ
 have hw:wd ((sb s).drop a)=none:=by rw[HD.out,wd,if_neg (by omega),if_neg iL,if_neg c10,if_neg gZ,if_neg (by rw[cl];decide),if_neg (by rw[cd];decide),if_neg (by rw[cs];decide)]
 have HW:=Lib.hid hw
 have hcl:=fun w=>lJ (s[a].toNat:Int) w
 rw[cl] at hcl
 have ni:=Lib.hid hcl
 have hcd:=fun w=>nI (s[a].toNat:Int) w
 rw[cd] at hcd
 have Mh:=Lib.hid hcd
 have hsx:=JA s[a].toNat (by have:=s[a].toNat_lt;omega)
 rw[cs] at hsx
 obtain⟨ix,hix⟩:∃ix,ix=Lib.indexByte [123,125,40,41,124,42,94,60,62,58,95,61] s[a].toNat.toUInt8:=⟨_,rfl⟩
 rw[←hix] at hsx
 have HX:=Lib.hid hix
 clear hw hcl cl hcd cd cs hix c32 c9 c13 iL c10 gZ
 go_enter Tryz.func52,Tryz.ntmps52
 go_wp2_with fail
 refine(ni.out _).mono ?_
 rintro e w' ⟨rfl,rfl⟩
 go_wp2_with fail
 refine(Mh.out _).mono ?_
 rintro e w' ⟨rfl,rfl⟩
 go_wp2_with fail
 refine(Any.strings_IndexByte Tryz.indexB _ _ _).mono ?_
 rintro e w' ⟨rfl,rfl⟩
 simp only[Int.toNat_natCast]
 rw[←HX.out]
 go_wp2_with fail
 refine(wB q a b _ kR.out).mono ?_
 rintro e w' ⟨rfl,rfl⟩
 go_wp2
 exact⟨rfl,Mf HW.out (ah (Below.refl _ _) _)⟩
theorem Fq (s:ByteArray) (a b q:Nat) (w:World) (hs:s.size≤100000) (ha:a<s.size) (hq:w.heap[q]? = some (.cells #[.int .i64 b] 3 (0,0))) :
 Calls Tryz.prog 52 #[.string s,.int .i64 a,nQ q] w (jk s a b w):=by
 by_cases c32:(s[a].toNat:Int)=32
 · exact Sw s a b q w hs ha hq c32
 by_cases c9:(s[a].toNat:Int)=9
 · exact Uu s a b q w hs ha hq c32 c9
 by_cases c13:(s[a].toNat:Int)=13
 · exact Sy s a b q w hs ha hq c32 c9 c13
 by_cases iL:(s[a].toNat:Int)=35
 · exact Sz s a b q w hs ha hq c32 c9 c13 iL
 by_cases c10:(s[a].toNat:Int)=10
 · exact SA s a b q w hs ha hq c32 c9 c13 iL c10
 by_cases gZ:(s[a].toNat:Int)=47
 · exact SB s a b q w hs ha hq c32 c9 c13 iL c10 gZ
 cases cl:kZ (s[a].toNat:Int) with
 | true=>exact SC s a b q w hs ha hq c32 c9 c13 iL c10 gZ cl
 | false =>
  cases cd:dN (s[a].toNat:Int) with
  | true=>exact SE s a b q w hs ha hq c32 c9 c13 iL c10 gZ cl cd
  | false =>
   cases cs:vL (s[a].toNat:Int) with
   | true=>exact OD s a b q w hs ha hq c32 c9 c13 iL c10 gZ cl cd cs
   | false=>exact OE s a b q w hs ha hq c32 c9 c13 iL c10 gZ cl cd cs
end Go.Proofs.YtfkmajjgkdjncaaGreatDoor
