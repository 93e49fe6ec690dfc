/- Merged. -/
import Derived.Deep.DeepCutAuto
import Derived.Deep.CutBlock
import Derived.Lib.EndianBits
import Derived.Laws.IdiomStrings
import Derived.Test.YtfkmajjgkdjncaaGreatDoorPJoin
import Derived.Test.YtfkmajjgkdjncaaGreatDoorClsG
import Derived.SizedLaws
import Derived.Test.YtfkmajjgkdjncaaGreatDoorGSame
import Derived.Test.YtfkmajjgkdjncaaGreatDoorPmScan
set_option linter.unusedVariables false
set_option linter.unusedSimpArgs false
namespace Go.Proofs.YtfkmajjgkdjncaaGreatDoor
open Go.RowKit Go.Joins Go.Lib
def Gg (n:Nat):UInt8:=if n<10 then UInt8.ofNat (48+n) else UInt8.ofNat (87+n)
def tO (n:Nat):List UInt8:=if h:n<16 then [Gg n] else tO (n / 16)++[Gg (n % 16)]
theorem BA {n:Nat} (h:n<16):tO n=[Gg n]:=by rw[tO,dif_pos h]
theorem O1 {n:Nat} (h:¬n<16):tO n=tO (n / 16)++[Gg (n % 16)]:=by rw[tO,dif_neg h]
end Go.Proofs.YtfkmajjgkdjncaaGreatDoor

namespace Go.Proofs.YtfkmajjgkdjncaaGreatDoor
open Go.RowKit
def jN (r:Int):Bool:=(decide (97≤r) && decide (r≤122)) || (decide (65≤r) && decide (r≤90)) || (decide (48≤r) && decide (r≤57))
def U3 (n:Nat):ByteArray:=⟨(Lib.toUpperA (tO n)).toArray⟩
def yh (r:Int):ByteArray:=if jN r=true then ⟨#[UInt8.ofNat r.toNat]⟩ else (⟨#[92,117,123]⟩++U3 r.toNat)++⟨#[125]⟩
end Go.Proofs.YtfkmajjgkdjncaaGreatDoor

namespace Go.Proofs.YtfkmajjgkdjncaaGreatDoor
open Go.RowKit Ru
def KT (l:List ByteArray):ByteArray:=⟨((l.map (·.data.toList)).flatten).toArray⟩
end Go.Proofs.YtfkmajjgkdjncaaGreatDoor

namespace Go.Proofs.YtfkmajjgkdjncaaGreatDoor
open Go.RowKit Ru
def Gi (x:Int×Int):ByteArray:=if x.1=x.2 then yh x.1 else (yh x.1++⟨#[45]⟩)++yh x.2
def uW (l:List (Int×Int)):ByteArray:=if l.length=1∧(l.getD 0 (0,0)).1=(l.getD 0 (0,0)).2 then yh (l.getD 0 (0,0)).1 else (⟨#[91]⟩++KT (l.map Gi))++⟨#[93]⟩
end Go.Proofs.YtfkmajjgkdjncaaGreatDoor

namespace Go.Proofs.YtfkmajjgkdjncaaGreatDoor
open Go.RowKit De Wd
namespace De
def nu:Nat→List Int→List (Nat×It)
 | _,[]=>[]
 | a,c::t=>(a,⟨c,1,false,false,false⟩)::nu (a+1) t
theorem ow:∀(l:List Int) (a:Nat),(∀x∈l,x<128)→all a l=nu a l:=by
 intro l
 induction l with
 | nil=>intro a _;rw[all_nil];rfl
 | cons c t ih =>
  intro a h
  have h1:one (c::t)=⟨c,1,false,false,false⟩:=Ux (h c (by simp))
  rw[all_cons a _ (by simp),h1]
  show(a,_)::all (a+1) t=_
  rw[ih _ fun x hx=>h x (by simp[hx])]
  rfl
end De
namespace Wd
theorem O3:∀(l:List Int) (a:Nat),∀p∈nu a l,p.2.bad=false∧p.2.r∈l:=by
 intro l
 induction l with
 | nil=>intro a p hp;simp[nu] at hp
 | cons c t ih =>
  intro a p hp
  simp only[nu,List.mem_cons] at hp
  rcases hp with rfl|hp
  · simp
  · have := ih _ p hp
    exact⟨this.1,by simp[this.2]⟩
theorem U4 {l:List Int} (h:∀x∈l,x<128):fb l=l.length:=by
 unfold fb
 rw[ow l 0 h]
 have:(nu 0 l).find? (·.2.bad)=none:=by
  rw[List.find?_eq_none];intro p hp;simp[(O3 l 0 p hp).1]
 rw[this]
def DW:Nat→Nat→List Int→List (Nat×Wt)×Option Nat
 | 0,_,_=>([],none)
 | _+1,_,[]=>([],none)
 | n + 1, a, c :: t => match wd (c :: t) with
  | none=>([],some a)
  | some x=>(if x.k=0 then (DW n (a+x.z) ((c::t).drop x.z)).1 else (a,x)::(DW n (a+x.z) ((c::t).drop x.z)).1,(DW n (a+x.z) ((c::t).drop x.z)).2)
theorem U5:∀(n a:Nat) (l:List Int),l.length≤n→DW n a l=sc a l:=by
 intro n
 induction n with
 | zero=>intro a l h;have:l=[]:=List.eq_nil_of_length_eq_zero (by omega);subst this;rw[qO];rfl
 | succ n ih =>
  intro a l h
  cases l with
  | nil=>rw[qO];rfl
  | cons c t =>
   simp only[DW]
   cases hw:wd (c::t) with
   | none=>rw[vD (by simp) hw]
   | some x =>
    have h1:=(kr hw).1
    rw[rY hw]
    simp only
    rw[ih _ _ (by rw[List.length_drop];omega)]
theorem U6 {l : List Int} (h : ∀ x ∈ l, x < 128) (hl : l.length ≤ 4000) : rs l = match (DW l.length 0 l).2 with | some a => .bad 2 (min a l.length) | none => .ok (DW l.length 0 l).1 := by
 unfold rs
 rw[if_neg (by omega),U4 h,U5 _ _ _ (Nat.le_refl _)]
 cases (sc 0 l).2 with
 | some a=>rfl
 | none=>simp
theorem Dr {l:List Int} {W:List (Nat×Wt)} (h:∀x∈l,x<128) (hl:l.length≤4000) (hW:DW l.length 0 l=(W,none)):rs l=.ok W:=by
 rw[U6 h hl,hW]
end Wd
theorem Row.cells {w:World} {v:Value} {n:Nat} {cs:List Value} (h:Row w v n cs) (hn:0<n):∃b off cap,v=.slice (some ⟨b,off,none⟩) n cap∧b<w.heap.size∧∀j u,cs[j]? = some u→w.cell? ⟨b,off+j,none⟩=some u:=by
 obtain⟨o,cap,rfl,h1,h2,h3⟩:=h
 rcases h3 with⟨h0,_⟩|⟨b,off,rfl,hb,hc⟩
 · omega
 · exact⟨b,off,cap,rfl,hb,hc⟩
end Go.Proofs.YtfkmajjgkdjncaaGreatDoor

namespace Go.Proofs.YtfkmajjgkdjncaaGreatDoor
open Go.RowKit De Wd
namespace Wd
theorem Jk : ∀ (l : List Int) (a k : Nat), (nu a l)[k]? = (l[k]?).map fun c => (a + k, ⟨c, 1, false, false, false⟩) := by
 intro l
 induction l with
 | nil=>intro a k;simp[nu]
 | cons c t ih =>
  intro a k
  cases k with
  | zero=>simp[nu]
  | succ k =>
   simp only[nu,List.getElem?_cons_succ,ih]
   rw[show a+1+k=a+(k+1) by omega]
theorem rX:∀(l:List Int) (a:Nat),(nu a l).length=l.length
 | [],a=>rfl
 | c::t,a=>by simp[nu,rX t]
theorem EP (l:List Int) (a k:Nat):pk (nu a l) k=(l[k]?).getD (-1):=by
 unfold pk
 rw[Jk]
 cases l[k]?<;>rfl
def At (L:Its) (k:Nat) (t:List Int):Prop:=∀i,i<t.length→pk L (k+i)=t.getD i 0
theorem At.head {L:Its} {k:Nat} {c:Int} {t:List Int} (h:At L k (c::t)):pk L k=c:=by have:=h 0 (by simp);simpa using this
theorem At.tail {L : Its} {k : Nat} {c : Int} {t : List Int} (h : At L k (c :: t)) : At L (k + 1) t := fun i hi => by
 have:=h (i+1) (by simpa using hi)
 rw[show k+1+i=k+(i+1) by omega,this];simp
theorem At.left {L : Its} {k : Nat} {s t : List Int} (h : At L k (s ++ t)) : At L k s := fun i hi => by
 rw[h i (by rw[List.length_append];omega)]
 simp[List.getD,List.getElem?_append_left hi]
theorem At.right {L : Its} {k : Nat} {s t : List Int} (h : At L k (s ++ t)) : At L (k + s.length) t := fun i hi => by
 have:=h (s.length+i) (by rw[List.length_append];omega)
 rw[Nat.add_assoc,this]
 simp[List.getD,List.getElem?_append_right (show s.length≤s.length+i by omega)]
theorem At.whole (l : List Int) (a : Nat) : At (nu a l) 0 l := fun i hi => by
 rw[EP,Nat.zero_add];simp[List.getD,hi]
def hv (k:Nat):Int:=if k<10 then 48+(k:Int) else 55+(k:Int)
def d9 (n:Nat):List Int:=if h:n<16 then [hv n] else d9 (n / 16)++[hv (n % 16)]
theorem fV {n:Nat} (h:n<16):d9 n=[hv n]:=by rw[d9,dif_pos h]
theorem nW {n:Nat} (h:¬n<16):d9 n=d9 (n / 16)++[hv (n % 16)]:=by rw[d9,dif_neg h]
theorem wL {k:Nat} (h:k<16):dg (hv k)=(k:Int):=by
 unfold dg hv
 split<;>split<;>(try split)<;>omega
theorem uK {k:Nat} (h:k<16):48≤hv k∧hv k≤70:=by unfold hv;split<;>omega
theorem SX:∀(N n:Nat),n≤N→sb (U3 n)=d9 n:=by
 have hd:∀k:Nat,k<16→(Lib.toUpperA [Gg k]).map (fun b=>(b.toNat:Int))=[hv k]:=by decide
 intro N
 induction N with
 | zero => intro n h; have : n = 0 := by omega
           subst this;rw[fV (by omega)];show(Lib.toUpperA (tO 0)).map _=_;rw[BA (by omega)];exact hd 0 (by omega)
 | succ N ih =>
  intro n h
  by_cases h16:n<16
  · rw[fV h16];show(Lib.toUpperA (tO n)).map _=_;rw[BA h16];exact hd n h16
  · rw [nW h16, ← ih (n / 16) (by omega)]
    show(Lib.toUpperA (tO n)).map _=(Lib.toUpperA (tO (n / 16))).map _++_
    rw[O1 h16,←hd _ (Nat.mod_lt _ (by decide))]
    simp[Lib.toUpperA]
theorem sI:∀(k n:Nat),n<16 ^ (k+1)→(d9 n).length≤k+1∧1≤(d9 n).length:=by
 intro k
 induction k with
 | zero=>intro n h;rw[fV (by simpa using h)];simp
 | succ k ih =>
  intro n h
  by_cases h16:n<16
  · rw[fV h16];simp
  · rw [nW h16]
    have:=ih (n / 16) (by rw[Nat.div_lt_iff_lt_mul (by decide)];rw[Nat.pow_succ] at h;exact h)
    simp;omega
theorem SY (L:Its):∀(N n:Nat),n≤N→∀(f c k:Nat) (t:List Int),n≤1114111→c=0→At L k (d9 n++t)→num L (f+(d9 n).length) 0 0 k=num L f (d9 n).length (n:Int) (k+(d9 n).length)∧True:=by
 intro N
 induction N with
 | zero =>
  intro n h f c k t h1 hc hA
  have:n=0:=by omega
  subst this
  rw[fV (by omega)] at hA ⊢
  refine⟨?_,trivial⟩
  have e:=hA.head
  simp only[List.length_singleton,num]
  rw[e,if_neg (by simp),if_pos ⟨by simp[hv],by simp[tq,wL]⟩,wL (by omega)]
  simp
 | succ N ih =>
  intro n h f c k t h1 hc hA
  refine⟨?_,trivial⟩
  by_cases h16:n<16
  · rw [fV h16] at hA ⊢
    have e:=hA.head
    have b:=uK h16
    simp only[List.length_singleton,num]
    rw[e,if_neg (by simp),if_pos ⟨by omega,by simp[tq,wL h16];omega⟩,wL h16]
    simp
  · rw [nW h16, List.append_assoc] at hA
    have hl:=sI 5 (n / 16) (by simp;omega)
    have hl4:=sI 4 (n / 16) (by simp;omega)
    have key:=(ih (n / 16) (by omega) (f+1) 0 k _ (by omega) rfl hA).1
    rw[nW h16,List.length_append,List.length_singleton]
    rw[show f+((d9 (n / 16)).length+1)=f+1+(d9 (n / 16)).length by omega,key]
    have e:=hA.right.head
    have b:=uK (Nat.mod_lt n (show 16>0 by decide))
    have hm:=Nat.mod_lt n (show 16>0 by decide)
    have JU:=Nat.div_add_mod n 16
    have ev:((n / 16:Nat):Int)*16+((n % 16:Nat):Int)=(n:Int):=by omega
    simp only[num]
    rw [e, if_neg (by intro hx; have := hx.2; omega), if_pos ⟨by omega, by
     have:((n / 16:Nat):Int)*16+dg (hv (n % 16))≤1114111:=by rw[wL hm,ev];omega
     simp only[tq,Bool.and_eq_true,decide_eq_true_eq]
     refine⟨⟨by omega,by rw[wL hm];omega⟩,this⟩⟩,wL hm,ev]
    rw[show k+(d9 (n / 16)).length+1=k+((d9 (n / 16)).length+1) by omega]
theorem gG (a b:ByteArray):sb (a++b)=sb a++sb b:=by simp[sb,ByteArray.data_append]
def lb (r:Int):List Int:=if jN r=true then [r] else [92,117,123]++(d9 r.toNat++[125])
theorem BD {r:Int} (h0:0≤r):sb (yh r)=lb r:=by
 unfold yh lb
 split
 · rename_i ha
   have h1:r≤127:=by unfold jN at ha;simp at ha;omega
   simp[sb]
   omega
 · rw [gG, gG, SX _ _ (Nat.le_refl _)]
   rfl
theorem U7 {r:Int} (h0:0≤r) (h1:r≤1114111):1≤(lb r).length∧(lb r).length≤10:=by
 unfold lb
 split
 · simp
 · have := sI 5 r.toNat (by simp; omega)
   simp;omega
theorem JV {r:Int} (h0:0≤r) (t:List Int):∃c u,lb r++t=c::u∧(c=92∨(jN c=true)):=by
 unfold lb
 split
 · rename_i h;exact⟨r,t,rfl,.inr h⟩
 · exact⟨92,_,rfl,.inl rfl⟩
theorem yj {r:Int} (h:jN r=true):rJ r=true∧0≤r∧r≠92∧r≠45∧r≠94:=by
 unfold jN at h
 simp at h
 refine⟨?_,by omega,by omega,by omega,by omega⟩
 unfold rJ xV
 simp
 omega
theorem Gj (L:Its) (k:Nat) (r:Int) (t:List Int) (h0:0≤r) (h1:r≤1114111) (hs:¬(55296≤r∧r<57344)) (hA:At L k (lb r++t)):lt L k=.ok (r,k+(lb r).length):=by
 unfold lb at hA ⊢
 by_cases ha:jN r=true
 · rw [if_pos ha] at hA ⊢
   obtain⟨b1,b2,b3,-⟩:=yj ha
   have e:=hA.head
   unfold lt
   rw[e,if_pos ⟨b2,b1⟩,if_neg b3]
   rfl
 · rw [if_neg ha] at hA ⊢
   obtain⟨n,rfl⟩:∃n:Nat,r=(n:Int):=⟨r.toNat,by omega⟩
   have en:((n:Int)).toNat=n:=by omega
   rw[en] at hA ⊢
   have hl:=sI 5 n (by simp;omega)
   have e0:pk L k=92:=hA.head
   have e1:pk L (k+1)=117:=hA.tail.head
   have e2:pk L (k+1+1)=123:=hA.tail.tail.head
   have hB:At L (k+1+1+1) (d9 n++(125::t)):=by
    have h:=hA.tail.tail.tail
    have e:(d9 n++[125])++t=d9 n++(125::t):=by simp
    rw[←e]
    exact h
   have e3:pk L (k+1+1+1+(d9 n).length)=125:=hB.right.head
   have key:=(SY L n n (Nat.le_refl _) (7-(d9 n).length) 0 (k+1+1+1) (125::t) (by omega) rfl hB).1
   rw[show 7-(d9 n).length+(d9 n).length=7 by omega] at key
   obtain⟨g,hg⟩:∃g,7-(d9 n).length=g+1:=⟨6-(d9 n).length,by omega⟩
   unfold lt esc
   rw[e0,if_pos ⟨by decide,by decide⟩,if_pos rfl,e1,if_pos ⟨by decide,by decide⟩,if_neg (by decide),if_neg (by decide),if_neg (by decide),if_pos rfl,show k+1+2=k+1+1+1 by omega,e2,if_pos ⟨by decide,by decide⟩,key,hg]
   simp only[num]
   rw[e3,if_pos ⟨by omega,rfl⟩,if_neg (by omega)]
   simp
   omega
def rI (x:Int×Int):List Int:=if x.1=x.2 then lb x.1 else lb x.1++(45::lb x.2)
def Sk (x:Int×Int):Prop:=((0≤x.1∧x.1≤1114111)∧¬(55296≤x.1∧x.1<57344))∧((0≤x.2∧x.2≤1114111)∧¬(55296≤x.2∧x.2<57344))∧x.1≤x.2
theorem U8 {x:Int×Int} (h:Sk x):sb (Gi x)=rI x:=by
 unfold Gi rI
 split
 · exact BD h.1.1.1
 · rw [gG, gG, BD h.1.1.1, BD h.2.1.1.1, List.append_assoc]
   rfl
theorem MI {x:Int×Int} (h:Sk x):1≤(rI x).length:=by
 have:=U7 h.1.1.1 h.1.1.2
 unfold rI;split
 · omega
 · rw[List.length_append];omega
theorem S9 {x:Int×Int} (h:Sk x) (t:List Int):∃c u,rI x++t=c::u∧(c=92∨jN c=true):=by
 unfold rI
 split
 · exact JV h.1.1.1 t
 · rw[List.append_assoc];exact JV h.1.1.1 _
theorem At.nil (L:Its) (k:Nat):At L k []:=fun i hi=>by simp at hi
def Ends (L:Its) (k:Nat):Prop:=pk L k≠45
theorem Ta (L:Its) (k:Nat) (x:Int×Int) (hx:Sk x) (hA:At L k (rI x)) (hE:Ends L (k+(rI x).length)):kU L k=.ok (x,k+(rI x).length):=by
 obtain⟨a,b⟩:=x
 unfold rI at hA hE ⊢
 by_cases c:a=b
 · subst c
   simp only[if_true] at hA hE ⊢
   have h1:=Gj L k a [] hx.1.1.1 hx.1.1.2 hx.1.2 (by simpa using hA)
   unfold kU
   rw[h1]
   simp only
   rw[if_neg hE]
 · have c' : ¬ (a, b).1 = (a, b).2 := c
   rw[if_neg c'] at hA hE ⊢
   have h1:=Gj L k a _ hx.1.1.1 hx.1.1.2 hx.1.2 hA
   have e:=hA.right.head
   have h2:=Gj L (k+(lb a).length+1) b [] hx.2.1.1.1 hx.2.1.1.2 hx.2.1.2 (by simpa using hA.right.tail)
   have hab:a≤b:=hx.2.2
   unfold kU
   rw[h1]
   simp only
   rw[if_pos e,h2]
   simp only
   rw[if_neg (by omega)]
   simp only[List.length_append,List.length_cons]
   rw[show k+(lb a).length+1+(lb b).length=k+((lb a).length+((lb b).length+1)) by omega]
def jV (l:List (Int×Int)):List Int:=(l.map rI).flatten
theorem qA (x:Int×Int) (l:List (Int×Int)):jV (x::l)=rI x++jV l:=by simp[jV]
theorem Gl {l:List (Int×Int)} (h:∀x∈l,Sk x):l=[]∨∃c u,jV l=c::u∧(c=92∨jN c=true):=by
 cases l with
 | nil=>exact .inl rfl
 | cons x l=>right;rw[qA];exact S9 (h x (by simp)) _
theorem MJ (L:Its):∀(l:List (Int×Int)) (f k:Nat) (acc:List (Int×Int)),(∀x∈l,Sk x)→(acc≠[]∨l≠[])→At L k (jV l)→L.length=k+(jV l).length→l.length<f→kV L f acc k=.ok (acc++l):=by
 intro l
 induction l with
 | nil =>
  intro f k acc _ hne hA hL hf
  obtain⟨g,rfl⟩:∃g,f=g+1:=⟨f-1,by omega⟩
  rw[DT (by rcases hne with h|h;exact h;exact absurd rfl h) (by simp[jV] at hL;omega)]
  simp
 | cons x l ih =>
  intro f k acc hx hne hA hL hf
  obtain⟨g,rfl⟩:∃g,f=g+1:=⟨f-1,by omega⟩
  rw[qA] at hA hL
  have JW:=hx x (by simp)
  have hxl:∀y∈l,Sk y:=fun y hy=>hx y (by simp[hy])
  have hp:=MI JW
  have hE:Ends L (k+(rI x).length):=by
   unfold Ends
   rcases Gl hxl with h|⟨c,u,h,hc⟩
   · subst h
     rw[pq (by simp[jV] at hL;omega)];decide
   · have := hA.right
     rw[h] at this
     rw[this.head]
     rcases hc with rfl|hc
     · decide
     · exact(yj hc).2.2.2.1
  rw[List.length_append] at hL
  rw[JF (by rintro⟨-,h⟩;omega) (Ta L k x JW hA.left hE),ih g _ (acc++[x]) hxl (.inl (by simp)) hA.right (by omega) (by simp at hf;omega)]
  simp
theorem DX (l:List (Int×Int)) (n:Nat) (h:∀x∈l,Sk x) (hne:l≠[]) (hn:Ru.nE l=l):kE (all 0 (jV l)) n=.ok l:=by
 have hasc:all 0 (jV l)=nu 0 (jV l):=ow _ _ (by
  have hlb:∀r,0≤r→∀c∈lb r,c<128:=by
   intro r h0 c hc
   unfold lb at hc
   split at hc
   · rename_i ha
     simp at hc;subst hc
     unfold jN at ha;simp at ha;omega
   · have hh : ∀ (N m : Nat), m ≤ N → ∀ c ∈ d9 m, c < 128 := by
      intro N
      induction N with
      | zero=>intro m hm c hc;rw[fV (by omega)] at hc;simp at hc;subst hc;have:=uK (show m<16 by omega);omega
      | succ N ih =>
       intro m hm c hc
       by_cases h16:m<16
       · rw[fV h16] at hc;simp at hc;subst hc;have:=uK h16;omega
       · rw [nW h16] at hc
         rcases List.mem_append.1 hc with hc|hc
         · exact ih _ (by omega) c hc
         · simp at hc;subst hc;have:=uK (Nat.mod_lt m (show 16>0 by decide));omega
     simp only[List.mem_append,List.mem_cons,List.not_mem_nil,or_false] at hc
     rcases hc with(rfl|rfl|rfl)|hc|rfl
     · decide
     · decide
     · decide
     · exact hh _ _ (Nat.le_refl _) c hc
     · decide
  intro c hc
  obtain⟨t,ht,hct⟩:=List.mem_flatten.1 hc
  obtain⟨x,hx,rfl⟩:=List.mem_map.1 ht
  have hs:=h x hx
  unfold rI at hct
  split at hct
  · exact hlb _ hs.1.1.1 c hct
  · rcases List.mem_append.1 hct with hct | hct
    · exact hlb _ hs.1.1.1 c hct
    · rcases List.mem_cons.1 hct with rfl | hct
      · decide
      · exact hlb _ hs.2.1.1.1 c hct)
 rw[hasc]
 have ko:¬pk (nu 0 (jV l)) 0=94:=by
  rcases Gl h with e|⟨c,u,e,hc⟩
  · exact absurd e hne
  · rw [EP, e]
    simp
    rcases hc with rfl|hc
    · decide
    · exact(yj hc).2.2.2.2
 have hlen:l.length≤(jV l).length:=by
  have:∀l:List (Int×Int),(∀x∈l,Sk x)→l.length≤(jV l).length:=by
   intro l
   induction l with
   | nil=>intro _;simp
   | cons x l ih=>intro h;rw[qA,List.length_append];have:=MI (h x (by simp));have:=ih (fun y hy=>h y (by simp[hy]));simp;omega
  exact this l h
 have key:=MJ (nu 0 (jV l)) l ((nu 0 (jV l)).length+2) 0 [] h (.inr hne) (At.whole _ _) (by rw[rX];omega) (by rw[rX];omega)
 unfold kE
 rw[if_neg ko,key]
 simp only[List.nil_append]
 rw[if_neg ko,hn,if_neg hne]
end Wd
end Go.Proofs.YtfkmajjgkdjncaaGreatDoor

namespace Go.Proofs.YtfkmajjgkdjncaaGreatDoor
open Go.RowKit Go.ChangeShapes Go.WideShapes Go.ChangeAt
end Go.Proofs.YtfkmajjgkdjncaaGreatDoor

namespace Go.Proofs.YtfkmajjgkdjncaaGreatDoor
open Go.RowKit Go.ChangeShapes Go.WideShapes Go.ChangeAt Go.Deep Go.Joins
end Go.Proofs.YtfkmajjgkdjncaaGreatDoor

namespace Go.Proofs.YtfkmajjgkdjncaaGreatDoor.Ru
end Go.Proofs.YtfkmajjgkdjncaaGreatDoor.Ru

namespace Go.Proofs.YtfkmajjgkdjncaaGreatDoor
open Go.RowKit Ru
end Go.Proofs.YtfkmajjgkdjncaaGreatDoor
namespace Go.Proofs.YtfkmajjgkdjncaaGreatDoor
open Go.RowKit Ru
namespace Ru
end Ru
end Go.Proofs.YtfkmajjgkdjncaaGreatDoor
namespace Go.Proofs.YtfkmajjgkdjncaaGreatDoor
open Go.RowKit Ru
namespace Ru
theorem O4:∀P:List Pc,(ends P).length=2*P.length
 | []=>rfl
 | q::P=>by simp only[ends,List.length_cons,O4 P];omega
end Ru
end Go.Proofs.YtfkmajjgkdjncaaGreatDoor
namespace Go.Proofs.YtfkmajjgkdjncaaGreatDoor
open Go.RowKit Ru
namespace Ru
end Ru
end Go.Proofs.YtfkmajjgkdjncaaGreatDoor
namespace Go.Proofs.YtfkmajjgkdjncaaGreatDoor
open Go.RowKit Ru
namespace Ru
end Ru
theorem oQ (p:Pc):∀l,(ins p l).length=l.length+1
 | []=>rfl
 | q::l=>by unfold ins;split<;>simp[oQ p l]
theorem oU:∀l,(rH l).length=l.length
 | []=>rfl
 | p::l=>by simp[rH,oQ,oU l]
theorem sM (l:List Pc):(aT l).length≤l.length:=by
 have h1:=qP (rH (raw l))
 rw[oU] at h1
 exact Nat.le_trans h1 (xL l)
end Go.Proofs.YtfkmajjgkdjncaaGreatDoor

namespace Go.Proofs.YtfkmajjgkdjncaaGreatDoor
open Go.RowKit Ru
namespace PT
mutual
def U9:PT→Bool
 | .mk k _ _ l=>if k=1∨k=4∨k=7 then true else if k=5 then (decide (l.length=2) && Va l) else if k=6 then (decide (l.length=2) && Vb l) else false
def Vb:List PT→Bool
 | []=>false
 | e::l=>U9 e || Vb l
def Va:List PT→Bool
 | []=>true
 | e::l=>U9 e && Va l
end
end PT
namespace PT
mutual
def dep:PT→Nat
 | .mk _ _ _ l=>deps l+1
def deps:List PT→Nat
 | []=>0
 | e::l=>max (dep e) (deps l)
end
theorem BF (e:PT):e.dep=deps e.parts+1:=by cases e;rw[dep];rfl
end PT
end Go.Proofs.YtfkmajjgkdjncaaGreatDoor

namespace Go.Proofs.YtfkmajjgkdjncaaGreatDoor
open Go.RowKit Go.ChangeShapes Go.WideShapes Go.ChangeAt Go.Deep Go.Joins
theorem len2 {α:Type} {l:List α} (h:l.length=2):∃a b,l=[a,b]:=by
 match l,h with
 | [a,b],_=>exact⟨a,b,rfl⟩
section
variable {H:Type} {enc:TypeId×Value→H} {W:World}
end
end Go.Proofs.YtfkmajjgkdjncaaGreatDoor

namespace Go.Proofs.YtfkmajjgkdjncaaGreatDoor
open Go.RowKit Ru
namespace RE
end RE
end Go.Proofs.YtfkmajjgkdjncaaGreatDoor

namespace Go.Proofs.YtfkmajjgkdjncaaGreatDoor
open Go.RowKit Ru
namespace RE
mutual
def dep:RE→Nat
 | .mk _ _ l=>deps l+1
def deps:List RE→Nat
 | []=>0
 | e::l=>max (dep e) (deps l)
end
theorem BF (e:RE):e.dep=deps e.parts+1:=by cases e;rw[dep];rfl
theorem DY (e:RE) (l:List RE):deps (e::l)=max e.dep (deps l):=by rw[deps]
mutual
def prt:RE→Bool
 | .mk k s l=>iN (.mk k s l) && Ap l
def Ap:List RE→Bool
 | []=>true
 | e::l=>prt e && Ap l
end
theorem MK (e:RE):e.prt=(e.iN && Ap e.parts):=by cases e;rw[prt];rfl
theorem ML (e:RE) (l:List RE):Ap (e::l)=(e.prt && Ap l):=by rw[Ap]
end RE
end Go.Proofs.YtfkmajjgkdjncaaGreatDoor

namespace Go.Proofs.YtfkmajjgkdjncaaGreatDoor
open Go.RowKit Ru
def hold (t:ByteArray) (m:Bool):ByteArray:=if m=true then (⟨#[40]⟩++t)++⟨#[41]⟩ else t
def Q0 (k:Int) (s:List (Int×Int)) (ks:List Int) (ts:List ByteArray):ByteArray:=
 if k=1 then ⟨#[40,41]⟩
 else if k=2 then uW s
 else if k=3 then hold (ts.getD 0 ⟨#[]⟩) ([4].contains (ks.getD 0 0))++hold (ts.getD 1 ⟨#[]⟩) ([4,3].contains (ks.getD 1 0))
 else if k=4 then (hold (ts.getD 0 ⟨#[]⟩) false++⟨#[124]⟩)++hold (ts.getD 1 ⟨#[]⟩) ([4].contains (ks.getD 1 0))
 else if k=5 then hold (ts.getD 0 ⟨#[]⟩) ([3,4].contains (ks.getD 0 0))++⟨#[42]⟩
 else ⟨#[91,93]⟩
namespace RE
mutual
def text:RE→ByteArray
 | .mk k s l=>Q0 k s (l.map kind) (texts l)
def texts:List RE→List ByteArray
 | []=>[]
 | e::l=>text e::texts l
end
theorem yt (l:List RE):texts l=l.map text:=by
 induction l with
 | nil=>rw[texts];rfl
 | cons a l ih=>rw[texts,ih];rfl
theorem jm (e:RE):e.text=Q0 e.kind e.set (e.parts.map kind) (e.parts.map text):=by
 cases e with
 | mk k s l=>rw[text,yt];rfl
theorem Tc {e:RE} (h:e.prt=true):e.iN=true:=by rw[MK,Bool.and_eq_true] at h;exact h.1
theorem O5 {e p:RE} {i:Nat} (h:e.prt=true) (hp:e.parts[i]? = some p):p.prt=true:=by
 rw[MK,Bool.and_eq_true] at h
 have all:∀(l:List RE),Ap l=true→∀p∈l,p.prt=true:=by
  intro l
  induction l with
  | nil=>intro _ p hp;simp at hp
  | cons a l ih =>
   intro h p hp
   rw[ML,Bool.and_eq_true] at h
   rcases List.mem_cons.1 hp with rfl|hp
   · exact h.1
   · exact ih h.2 p hp
 exact all _ h.2 p (List.mem_of_getElem? hp)
theorem DZ {e:RE} (h:e.iN=true):(e.kind=0)∨(e.kind=1)∨(e.kind=2∧e.set.length≤20∧qy e.set=true)∨(e.kind=3∧e.parts.length=2)∨(e.kind=4∧e.parts.length=2)∨(e.kind=5∧e.parts.length=1):=by
 unfold iN at h
 by_cases k2:e.kind=2
 · rw[if_pos k2] at h;simp at h;exact .inr (.inr (.inl ⟨k2,h.2.1,h.2.2.1⟩))
 · rw [if_neg k2] at h
   split at h
   · cases h
   · split at h
     · omega
     · split at h
       · rename_i k5;simp at h;omega
       · split at h
         · rename_i k34;simp at h;omega
         · cases h
end RE
end Go.Proofs.YtfkmajjgkdjncaaGreatDoor

namespace Go.Proofs.YtfkmajjgkdjncaaGreatDoor
open Go.RowKit Ru
end Go.Proofs.YtfkmajjgkdjncaaGreatDoor

namespace Go.Proofs.YtfkmajjgkdjncaaGreatDoor
open Go.RowKit Ru
end Go.Proofs.YtfkmajjgkdjncaaGreatDoor

namespace Go.Proofs.YtfkmajjgkdjncaaGreatDoor
open Go.RowKit Ru
theorem JX (e:PT):e.iN=decide (((e.kind=1∨e.kind=4)∧e.names.length=0∧e.ends.length=0∧e.parts.length=0)∨(e.kind=2∧0<e.names.length∧e.ends.length=0∧e.parts.length=0)∨(e.kind=3∧0<e.names.length∧0<e.ends.length∧e.parts.length=1)∨((e.kind=5∨e.kind=6)∧e.names.length=0∧e.ends.length=0∧e.parts.length=2)∨(e.kind=7∧e.names.length=0∧e.ends.length=0∧e.parts.length=1)):=by
 rw[Bool.eq_iff_iff,decide_eq_true_iff]
 unfold PT.iN
 generalize e.kind=k
 generalize e.names.length=n
 generalize e.ends.length=m
 generalize e.parts.length=l
 (repeat' split)<;>simp only[Bool.and_eq_true,decide_eq_true_eq,Bool.false_eq_true,false_iff]<;>omega
end Go.Proofs.YtfkmajjgkdjncaaGreatDoor

namespace Go.Proofs.YtfkmajjgkdjncaaGreatDoor
open Go.RowKit Ru
namespace PT
mutual
def Vd:PT→Nat→Nat→Bool×Nat
 | .mk k ns es l,n,deep=>if 60<n+1∨12<deep∨iN (.mk k ns es l)=false then (false,n+1) else Ve l (n+1) (deep+1)
def Ve:List PT→Nat→Nat→Bool×Nat
 | [],n,_=>(true,n)
 | e::l,n,deep=>if (Vd e n deep).1=true then Ve l (Vd e n deep).2 deep else (false,(Vd e n deep).2)
end
end PT
end Go.Proofs.YtfkmajjgkdjncaaGreatDoor

namespace Go.Proofs.YtfkmajjgkdjncaaGreatDoor
open Go.RowKit Ru
def lX (l:List ByteArray):ByteArray:=⟨(Lib.join (l.map (·.data.toList)) [32]).toArray⟩
theorem O6 (k:Nat):∀l:List (List UInt8),(∀x∈l,x.length≤k)→(Lib.join l [32]).length≤(k+1)*l.length:=by
 intro l
 induction l with
 | nil=>intro _;simp[Lib.join]
 | cons a l ih =>
  intro h
  have h1:=h a (by simp)
  have h2:=ih (fun x hx=>h x (by simp[hx]))
  cases l with
  | nil=>simp[Lib.join];omega
  | cons b l =>
   simp only[Lib.join,List.intercalate,List.intersperse,List.flatten_cons,List.length_append,List.length_cons,List.length_nil,Nat.mul_add,Nat.mul_one] at h2 ⊢
   omega
theorem KU {k:Nat} {l:List ByteArray} (h:∀x∈l,x.size≤k):(lX l).size≤(k+1)*l.length:=by
 show(Lib.join (l.map (·.data.toList)) [32]).toArray.size≤_
 rw[List.size_toArray]
 have := O6 k (l.map (·.data.toList)) (fun y hy => by
  obtain⟨x,hx,rfl⟩:=List.mem_map.1 hy
  exact h x hx)
 simpa using this
def brB (l:List ByteArray):ByteArray:=(⟨#[123]⟩++lX l)++⟨#[125]⟩
def vP (l:List ByteArray):Prop:=l.length≤1000∧∀x∈l,x.size≤1000
theorem vP.join {l:List ByteArray} (h:vP l):(lX l).size≤1001000:=by
 have:=KU h.2
 have h1:=h.1
 have:1001*l.length≤1001*1000:=Nat.mul_le_mul_left _ h1
 omega
def Q5 (k:Int) (ns es:List ByteArray) (ks:List Int) (ts:List ByteArray):ByteArray:=
 if k=2 then brB ns
 else if k=4 then ⟨#[95]⟩
 else if k=3 then ((((((⟨#[60]⟩++lX ns)++⟨#[58]⟩)++hold (ts.getD 0 ⟨#[]⟩) (([]:List Int).contains (ks.getD 0 0)))++⟨#[58]⟩)++lX es)++⟨#[62]⟩)
 else if k=5 then (hold (ts.getD 0 ⟨#[]⟩) ([6].contains (ks.getD 0 0))++⟨#[32]⟩)++hold (ts.getD 1 ⟨#[]⟩) ([6,5].contains (ks.getD 1 0))
 else if k=6 then (hold (ts.getD 0 ⟨#[]⟩) (([]:List Int).contains (ks.getD 0 0))++⟨#[124]⟩)++hold (ts.getD 1 ⟨#[]⟩) ([6].contains (ks.getD 1 0))
 else if k=7 then hold (ts.getD 0 ⟨#[]⟩) ([5,6].contains (ks.getD 0 0))++⟨#[42]⟩
 else ⟨#[40,41]⟩
namespace PT
mutual
def text:PT→ByteArray
 | .mk k ns es l=>Q5 k ns es (l.map kind) (texts l)
def texts:List PT→List ByteArray
 | []=>[]
 | e::l=>text e::texts l
end
theorem yt (l:List PT):texts l=l.map text:=by
 induction l with
 | nil=>rw[texts];rfl
 | cons a l ih=>rw[texts,ih];rfl
theorem jm (e:PT):e.text=Q5 e.kind e.names e.ends (e.parts.map kind) (e.parts.map text):=by
 cases e with
 | mk k ns es l=>rw[text,yt];rfl
inductive MO:PT→Prop
 | mk (k:Int) (ns es:List ByteArray) (l:List PT) (hs:iN (.mk k ns es l)=true) (hn:vP ns) (he:vP es) (h:∀(i:Nat) (p:PT),l[i]? = some p→MO p):MO (.mk k ns es l)
theorem DZ {e:PT} (h:e.iN=true):(e.kind=1)∨(e.kind=4)∨(e.kind=2)∨(e.kind=3∧e.parts.length=1)∨(e.kind=5∧e.parts.length=2)∨(e.kind=6∧e.parts.length=2)∨(e.kind=7∧e.parts.length=1):=by
 rw[JX,decide_eq_true_iff] at h
 omega
end PT
end Go.Proofs.YtfkmajjgkdjncaaGreatDoor

namespace Go.Proofs.YtfkmajjgkdjncaaGreatDoor
open Go.RowKit Ru
end Go.Proofs.YtfkmajjgkdjncaaGreatDoor

namespace Go.Proofs.YtfkmajjgkdjncaaGreatDoor
open Go.RowKit Ru
inductive PT.Vf:PT→Prop
 | mk (k:Int) (ns es:List ByteArray) (l:List PT) (hn:vP ns) (he:vP es) (h:∀(i:Nat) (p:PT),l[i]? = some p→PT.Vf p):PT.Vf (.mk k ns es l)
theorem PT.MO.of {e:PT} (hs:e.iN=true) (hn:e.Vf) (h:∀(i:Nat) (p:PT),e.parts[i]? = some p→p.MO):e.MO:=by
 cases hn with
 | mk k ns es l h1 h2 h3=>exact .mk k ns es l hs h1 h2 h
end Go.Proofs.YtfkmajjgkdjncaaGreatDoor

namespace Go.Proofs.YtfkmajjgkdjncaaGreatDoor
open Go.RowKit Ru
end Go.Proofs.YtfkmajjgkdjncaaGreatDoor

namespace Go.Proofs.YtfkmajjgkdjncaaGreatDoor
open Go.RowKit Ru
def wM (c:Int):ByteArray:=⟨(Lib.decDigits c.toNat).toArray⟩
end Go.Proofs.YtfkmajjgkdjncaaGreatDoor

namespace Go.Proofs.YtfkmajjgkdjncaaGreatDoor
open Go.RowKit Ru
end Go.Proofs.YtfkmajjgkdjncaaGreatDoor

namespace Go.Proofs.YtfkmajjgkdjncaaGreatDoor
open Go.RowKit Ru
def Xz (k:Int):ByteArray:=if k=0 then ⟨#[105,110,116]⟩ else if k=1 then ⟨#[99,97,108,108]⟩ else ⟨#[114,101,116]⟩
end Go.Proofs.YtfkmajjgkdjncaaGreatDoor

namespace Go.Proofs.YtfkmajjgkdjncaaGreatDoor
open Go.RowKit Ru
namespace RE
mutual
def nn:RE→Bool
 | .mk k s l=>decide (k=0) || JY l
def JY:List RE→Bool
 | []=>false
 | e::l=>nn e || JY l
end
theorem Q6 (e:RE):e.nn=(decide (e.kind=0) || JY e.parts):=by cases e;rw[nn];rfl
theorem Td (l:List RE):JY l=true↔∃e∈l,e.nn=true:=by
 induction l with
 | nil=>rw[JY];simp
 | cons a l ih=>rw[JY,Bool.or_eq_true,ih];simp
end RE
end Go.Proofs.YtfkmajjgkdjncaaGreatDoor

namespace Go.Proofs.YtfkmajjgkdjncaaGreatDoor
open Go.RowKit De Wd Ru
namespace Pm
section
variable (L:Its) (n:Nat) (cl:Nat→Nat→Cr)
mutual
inductive iG:Nat→Nat→RE→Nat→Prop
 | mk {d k k1 k2:Nat} {a e:RE} (h:Alt d k a k1) (r:mX d a k1 e k2):iG d k e k2
inductive mX:Nat→RE→Nat→RE→Nat→Prop
 | stop {d k:Nat} {a:RE} (h:pk L k≠124):mX d a k a k
 | go {d k k1 k2:Nat} {a b e:RE} (h:pk L k=124) (p:Alt d (k+1) b k1) (r:mX d (.mk 4 [] [a,b]) k1 e k2):mX d a k e k2
inductive Alt:Nat→Nat→RE→Nat→Prop
 | none {d k:Nat} (h:eG (pk L k)=false):Alt d k (.mk 1 [] []) k
 | some {d k k1 k2:Nat} {a e:RE} (h:eG (pk L k)=true) (p:Post d k a k1) (r:qz d a k1 e k2):Alt d k e k2
inductive qz:Nat→RE→Nat→RE→Nat→Prop
 | stop {d k:Nat} {a:RE} (h:eG (pk L k)=false):qz d a k a k
 | go {d k k1 k2:Nat} {a b e:RE} (h:eG (pk L k)=true) (p:Post d k b k1) (r:qz d (.mk 3 [] [a,b]) k1 e k2):qz d a k e k2
inductive Post:Nat→Nat→RE→Nat→Prop
 | mk {d k k1 k2:Nat} {a e:RE} (h:Atom d k a k1) (r:zl a k1 e k2):Post d k e k2
inductive zl:RE→Nat→RE→Nat→Prop
 | stop {k:Nat} {a:RE} (h:pk L k≠42):zl a k a k
 | go {k k2:Nat} {a e:RE} (h:pk L k=42) (r:zl (.mk 5 [] [a]) (k+1) e k2):zl a k e k2
inductive Atom:Nat→Nat→RE→Nat→Prop
 | par {d k k1:Nat} {e:RE} (h:pk L k=40) (hd:d<40) (p:iG (d+1) (k+1) e k1) (h2:pk L k1=41):Atom d k e (k1+1)
 | cls {d k j:Nat} {S:List (Int×Int)} (h:pk L k=91) (s:dh L (k+1) j) (h2:pk L j=93) (c:cl (aA L n k+1) (aA L n j)=.ok S):Atom d k (.mk 2 S []) (j+1)
 | esc {d k j:Nat} {S:List (Int×Int)} (h:pk L k=92) (h1:pk L (k+1)=117) (s:jI L (k+2) j) (hj:j<L.length) (c:cl (aA L n k) (aA L n (j+1))=.ok S):Atom d k (.mk 2 S []) (j+1)
 | one {d k:Nat} {r:Int} (h:pk L k=r) (ha:jN r=true):Atom d k (.mk 2 [(r,r)] []) (k+1)
end
end
theorem mV {L:Its} {k:Nat} {c:Int} (h:pk L k=c) (hc:0≤c):k<L.length:=by
 rcases Nat.lt_or_ge k L.length with h1|h1
 · exact h1
 · rw[pq (by omega)] at h;omega
theorem wN {L:Its}:∀(t:List Int) (k j:Nat),(∀c∈t,0≤c∧c≠93∧c≠92)→At L k t→dh L (k+t.length) j→dh L k j:=by
 intro t
 induction t with
 | nil=>intro k j _ _ h;exact h
 | cons c t ih =>
  intro k j hc hA h
  have h1:=hc c (by simp)
  have e:=hA.head
  refine .go (mV e h1.1) (by rw[e];exact h1.2.1) (by rw[e];exact h1.2.2) (ih (k+1) j (fun x hx=>hc x (by simp[hx])) hA.tail ?_)
  rw[List.length_cons] at h
  rw[show k+1+t.length=k+(t.length+1) by omega]
  exact h
theorem Gm:∀(N m:Nat),m≤N→∀c∈d9 m,48≤c∧c≤70:=by
 intro N
 induction N with
 | zero=>intro m hm c hc;rw[fV (by omega)] at hc;simp at hc;subst hc;exact uK (show m<16 by omega)
 | succ N ih =>
  intro m hm c hc
  by_cases h16:m<16
  · rw[fV h16] at hc;simp at hc;subst hc;exact uK h16
  · rw [nW h16] at hc
    rcases List.mem_append.1 hc with hc|hc
    · exact ih _ (by omega) c hc
    · simp at hc;subst hc;exact uK (Nat.mod_lt m (show 16>0 by decide))
theorem Db {L:Its} {r:Int} (h0:0≤r) {k j:Nat} (hA:At L k (lb r)) (h:dh L (k+(lb r).length) j):dh L k j:=by
 unfold lb at hA h
 split at hA
 · rename_i ha
   rw[if_pos ha] at h
   refine wN [r] k j ?_ hA h
   intro c hc
   simp at hc;subst hc
   unfold jN at ha;simp at ha;omega
 · rename_i ha
   rw[if_neg ha] at h
   have e0:pk L k=92:=hA.head
   have e1:pk L (k+1)=117:=hA.tail.head
   refine .esc (mV e1 (by decide)) e0 ?_
   refine wN (123::(d9 r.toNat++[125])) (k+2) j ?_ hA.tail.tail ?_
   · intro c hc
     simp only[List.mem_cons,List.mem_append,List.not_mem_nil,or_false] at hc
     rcases hc with rfl|hc|rfl
     · decide
     · have:=Gm _ _ (Nat.le_refl _) c hc;omega
     · decide
   · simp only [List.length_append, List.length_cons, List.length_nil] at h ⊢
     rw[show k+2+((d9 r.toNat).length+(0+1)+1)=k+(0+1+1+1+((d9 r.toNat).length+(0+1))) by omega]
     exact h
theorem Te {L:Its} {x:Int×Int} (hx:Sk x) {k j:Nat} (hA:At L k (rI x)) (h:dh L (k+(rI x).length) j):dh L k j:=by
 unfold rI at hA h
 split at hA
 · rename_i c;rw[if_pos c] at h;exact Db hx.1.1.1 hA h
 · rename_i c
   rw[if_neg c] at h
   refine Db hx.1.1.1 hA.left (wN [45] _ j (by intro c hc;simp at hc;subst hc;decide) (At.left (t:=lb x.2) hA.right) ?_)
   refine Db hx.2.1.1.1 hA.right.tail ?_
   simp only[List.length_append,List.length_cons] at h
   simp only[List.length_singleton]
   rw[show k+(lb x.1).length+1+(lb x.2).length=k+((lb x.1).length+((lb x.2).length+1)) by omega]
   exact h
theorem O7 {L:Its}:∀(l:List (Int×Int)) (k j:Nat),(∀x∈l,Sk x)→At L k (jV l)→dh L (k+(jV l).length) j→dh L k j:=by
 intro l
 induction l with
 | nil=>intro k j _ _ h;exact h
 | cons x l ih =>
  intro k j hx hA h
  rw[qA] at hA h
  refine Te (hx x (by simp)) hA.left (ih _ j (fun y hy=>hx y (by simp[hy])) hA.right ?_)
  rw[List.length_append] at h
  rw[Nat.add_assoc];exact h
theorem O8 {L:Its}:∀(t:List Int) (k:Nat) (u:List Int),(∀c∈t,0≤c∧c≠125)→At L k (t++125::u)→jI L k (k+t.length):=by
 intro t
 induction t with
 | nil=>intro k u _ hA;exact .stop (fun _=>hA.head)
 | cons c t ih =>
  intro k u hc hA
  have h1:=hc c (by simp)
  have e:=hA.head
  have:=ih (k+1) u (fun x hx=>hc x (by simp[hx])) hA.tail
  rw[List.length_cons,show k+(t.length+1)=k+1+t.length by omega]
  exact .go (mV e h1.1) (by rw[e];exact h1.2) this
structure Plain (L:Its) (n:Nat) (cl:Nat→Nat→Cr):Prop where
 aA:∀k,k≤L.length→aA L n k=k
 cl:∀(k:Nat) (t:List Int),At L k t→k+t.length≤L.length→cl k (k+t.length)=kE (all 0 t) t.length
theorem Q7 {L:Its}:∀(t:List Int) (k:Nat),(∀c∈t,0≤c)→At L k t→k≤L.length→k+t.length≤L.length:=by
 intro t
 induction t with
 | nil=>intro k _ _ h;simpa using h
 | cons c t ih =>
  intro k hc hA h
  have:=mV hA.head (hc c (by simp))
  have:=ih (k+1) (fun x hx=>hc x (by simp[hx])) hA.tail (by omega)
  rw[List.length_cons];omega
theorem MP (s:ByteArray):∀c∈sb s,0≤c:=by
 intro c hc
 unfold sb at hc
 obtain⟨b,_,rfl⟩:=List.mem_map.1 hc
 omega
theorem Vg:∀l:List (Int×Int),(∀x∈l,Sk x)→sb (KT (l.map Gi))=jV l:=by
 intro l
 induction l with
 | nil=>intro _;rfl
 | cons x l ih =>
  intro h
  rw[qA,←ih (fun y hy=>h y (by simp[hy])),←U8 (h x (by simp))]
  simp[sb,KT]
structure Q8 (l:List (Int×Int)):Prop where
 sk:∀x∈l,Sk x
 ne:l≠[]
 nf:Ru.nE l=l
theorem O9 {l:List (Int×Int)} (h:Ru.qy l=true) (hne:l≠[]):Q8 l:=by
 refine⟨fun x hx=>?_,hne,((Ru.SS l).1 h).symm⟩
 obtain⟨i,hi,rfl⟩:=List.getElem_of_mem hx
 have:=((Ru.wK l).1 h i hi).1
 have e:l.getD i (0,0)=l[i]:=by simp[List.getD,hi]
 rw[e] at this
 unfold Ru.tN at this
 simp[Ru.fM] at this
 unfold Sk
 omega
theorem Pb {L:Its} {n:Nat} {cl:Nat→Nat→Cr} (hP:Plain L n cl) {l:List (Int×Int)} (hl:Q8 l) {d k:Nat} (hk:k≤L.length) (hA:At L k (sb (uW l))):Atom L n cl d k (.mk 2 l []) (k+(sb (uW l)).length):=by
 have hle:=Q7 _ k (MP (uW l)) hA hk
 by_cases h1:l.length=1∧(l.getD 0 (0,0)).1=(l.getD 0 (0,0)).2
 · have hs : uW l = yh (l.getD 0 (0, 0)).1 := if_pos h1
   obtain⟨x,rfl⟩:=List.length_eq_one_iff.1 h1.1
   have hx:=hl.sk x (by simp)
   have JW:x.1=x.2:=h1.2
   have hs2:uW [x]=yh x.1:=hs
   rw[hs2,BD hx.1.1.1] at hA hle ⊢
   have hxe:[x]=[(x.1,x.1)]:=by obtain⟨a,b⟩:=x;simp at JW;subst JW;rfl
   by_cases ha:jN x.1=true
   · have e : lb x.1 = [x.1] := by unfold lb; rw [if_pos ha]
     rw[e] at hA ⊢
     rw[hxe]
     exact .one hA.head ha
   · have e : lb x.1 = [92, 117, 123] ++ (d9 x.1.toNat ++ [125]) := by unfold lb; rw [if_neg ha]
     have hrs:jV [x]=lb x.1:=by rw[qA];unfold rI;rw[if_pos JW];simp[jV]
     have hc:=hP.cl k (lb x.1) hA hle
     rw[←hrs,DX [x] _ hl.sk hl.ne hl.nf] at hc
     rw[hrs] at hc
     have hA2:=hA
     rw[e] at hA2
     have lT:pk L k=92:=hA2.head
     have Za:pk L (k+1)=117:=hA2.tail.head
     have hB:At L (k+2) ((123::d9 x.1.toNat)++125::[]):=hA2.tail.tail
     have hs3:=O8 (123::d9 x.1.toNat) (k+2) [] (by
      intro c hc
      rcases List.mem_cons.1 hc with rfl|hc
      · decide
      · have:=Gm _ _ (Nat.le_refl _) c hc;omega) hB
     have hlen:(lb x.1).length=4+(d9 x.1.toNat).length:=by rw[e];simp;omega
     have hj:k+2+(123::d9 x.1.toNat).length+1=k+(lb x.1).length:=by rw[hlen];simp;omega
     rw[←hj]
     refine .esc lT Za hs3 (by omega) ?_
     rw[hP.aA _ (by omega),hP.aA _ (by omega),hj]
     exact hc
 · have hs : uW l = (⟨#[91]⟩ ++ KT (l.map Gi)) ++ ⟨#[93]⟩ := if_neg h1
   have e:sb (uW l)=91::(jV l++[93]):=by rw[hs,gG,gG,Vg l hl.sk];rfl
   rw[e] at hA hle ⊢
   have U1:pk L k=91:=hA.head
   have hB:At L (k+1) (jV l++[93]):=hA.tail
   have LW:pk L (k+1+(jV l).length)=93:=hB.right.head
   have hlen:(91::(jV l++[93])).length=(jV l).length+2:=by simp
   rw[hlen] at hle ⊢
   have hc:=hP.cl (k+1) (jV l) hB.left (by omega)
   rw[DX l _ hl.sk hl.ne hl.nf] at hc
   rw[show k+((jV l).length+2)=k+1+(jV l).length+1 by omega]
   refine .cls U1 (O7 l _ _ hl.sk hB.left (.stop fun _=>LW)) LW ?_
   rw[hP.aA _ (by omega),hP.aA _ (by omega)]
   exact hc
theorem Tf {r:Int} (h:eG r=true):r≠42∧r≠124∧r≠41:=by
 refine⟨?_,?_,?_⟩<;>(rintro rfl;revert h;decide)
theorem MQ {r:Int} (h:jN r=true):eG r=true:=by
 unfold jN at h
 simp at h
 unfold eG zA vJ
 simp
 omega
theorem Dc (t:ByteArray) (m:Bool):sb (hold t m)=if m=true then 40::(sb t++[41]) else sb t:=by
 unfold hold
 split
 · rw[gG,gG];rfl
 · rfl
section
variable {L:Its} {n:Nat} {cl:Nat→Nat→Cr}
theorem Aq {d k k':Nat} {e:RE} (h:Atom L n cl d k e k'):eG (pk L k)=true:=by
 cases h with
 | par h _ _ _=>rw[h];decide
 | cls h _ _ _=>rw[h];decide
 | esc h _ _ _ _=>rw[h];decide
 | one h ha=>rw[h];exact MQ ha
theorem Pf {d k k':Nat} {e:RE} (h:Post L n cl d k e k'):eG (pk L k)=true:=by
 cases h with
 | mk h _=>exact Aq h
def yu (L:Its) (n:Nat) (cl:Nat→Nat→Cr) (e:RE) (d k m:Nat):Prop:=∃a k0,Atom L n cl d k a k0∧∀e' k',zl L n cl e (k+m) e' k'→zl L n cl a k0 e' k'
def Ar (L:Its) (n:Nat) (cl:Nat→Nat→Cr) (e:RE) (d k m:Nat):Prop:=∃a k0,Post L n cl d k a k0∧∀e' k',qz L n cl d e (k+m) e' k'→qz L n cl d a k0 e' k'
def yw (L:Its) (n:Nat) (cl:Nat→Nat→Cr) (e:RE) (d k m:Nat):Prop:=∃a k0,Alt L n cl d k a k0∧∀e' k',mX L n cl d e (k+m) e' k'→mX L n cl d a k0 e' k'
theorem yu.post {e:RE} {d k m:Nat} (h:yu L n cl e d k m) (hn:pk L (k+m)≠42):Post L n cl d k e (k+m):=by
 obtain⟨a,k0,ha,hc⟩:=h
 exact .mk ha (hc _ _ (.stop hn))
theorem yu.q {e:RE} {d k m:Nat} (h:yu L n cl e d k m) (hn:pk L (k+m)≠42):Ar L n cl e d k m:=⟨e,k+m,h.post hn,fun _ _ h=>h⟩
theorem Ar.alt {e:RE} {d k m:Nat} (h:Ar L n cl e d k m) (ha:eG (pk L (k+m))=false):Alt L n cl d k e (k+m):=by
 obtain⟨a,k0,hp,hc⟩:=h
 exact .some (Pf hp) hp (hc _ _ (.stop ha))
theorem Ar.a {e:RE} {d k m:Nat} (h:Ar L n cl e d k m) (ha:eG (pk L (k+m))=false):yw L n cl e d k m:=⟨e,k+m,h.alt ha,fun _ _ h=>h⟩
theorem yw.alts {e:RE} {d k m:Nat} (h:yw L n cl e d k m) (ha:pk L (k+m)≠124):iG L n cl d k e (k+m):=by
 obtain⟨a,k0,hp,hc⟩:=h
 exact .mk hp (hc _ _ (.stop ha))
theorem yw.held {e:RE} {d k m:Nat} (hd:d<40) (qW:pk L k=40) (kG:pk L (k+1+m)=41) (h:yw L n cl e (d+1) (k+1) m):yu L n cl e d k (m+2):=
 ⟨e,k+1+m+1,.par qW hd (h.alts (by rw[kG];decide)) kG,fun e' k' hp=>by rw[show k+1+m+1=k+(m+2) by omega];exact hp⟩
def JZ (e:RE):List Int:=sb (hold e.text ([3,4].contains e.kind))
def QT (e:RE):List Int:=sb (hold e.text ([4].contains e.kind))
structure RT (L:Its) (n:Nat) (cl:Nat→Nat→Cr) (e:RE):Prop where
 P:∀d k,2*e.dep+d≤40→k≤L.length→At L k (JZ e)→yu L n cl e d k (JZ e).length
 Q:∀d k,2*e.dep+d≤40→k≤L.length→At L k (QT e)→pk L (k+(QT e).length)≠42→Ar L n cl e d k (QT e).length
 A:∀d k,2*e.dep+d≤41→k≤L.length→At L k (sb e.text)→pk L (k+(sb e.text).length)≠42→eG (pk L (k+(sb e.text).length))=false→yw L n cl e d k (sb e.text).length
theorem len2 {α:Type} {l:List α} (h:l.length=2):∃a b,l=[a,b]:=by
 match l,h with
 | [a,b],_=>exact⟨a,b,rfl⟩
theorem EG {e:RE} (h:e.iN=true) (hk:e.kind≠2):e=.mk e.kind [] e.parts:=by
 have hs:e.set=[]:=by
  unfold RE.iN at h
  rw[if_neg hk] at h
  split at h
  · cases h
  · exact List.length_eq_zero_iff.1 (by omega)
 obtain⟨k,s,l⟩:=e
 cases hs
 rfl
theorem XA {e:RE} (h:e.iN=true) (hk:e.kind=2):e=.mk 2 e.set []∧e.set≠[]∧Ru.qy e.set=true:=by
 have h2:=h
 unfold RE.iN at h2
 rw[if_pos hk] at h2
 simp only[Bool.and_eq_true,decide_eq_true_eq] at h2
 refine⟨?_,fun e0=>?_,h2.2.2.1⟩
 · have hl := List.length_eq_zero_iff.1 h2.2.2.2
   obtain⟨k,s,l⟩:=e
   cases hk
   cases hl
   rfl
 · rw[e0] at h2;simp at h2
theorem Tg {e p:RE} (h:e.nn=false) (hp:p∈e.parts):p.nn=false:=by
 cases hq:p.nn with
 | false=>rfl
 | true =>
  have:=(RE.Td e.parts).2 ⟨p,hp,hq⟩
  rw[RE.Q6,this] at h
  simp at h
theorem MR (k:Int):([4,3]:List Int).contains k=([3,4]:List Int).contains k:=by
 simp[Bool.or_comm]
theorem Pg {e p:RE} (h:p∈e.parts):p.dep+1≤e.dep:=by
 have hd:=e.BF
 have:∀l:List RE,p∈l→p.dep≤RE.deps l:=by
  intro l
  induction l with
  | nil=>intro h;simp at h
  | cons a l ih =>
   intro h
   rw[RE.DY]
   rcases List.mem_cons.1 h with rfl|h
   · omega
   · have:=ih h;omega
 have:=this _ h
 omega
def Df (L:Its) (n:Nat) (cl:Nat→Nat→Cr) (e:RE):Prop:=∀d k,2*e.dep+d≤41→k≤L.length→At L k (sb e.text)→yu L n cl e d k (sb e.text).length
def Gn (L:Its) (n:Nat) (cl:Nat→Nat→Cr) (e:RE):Prop:=∀d k,2*e.dep+d≤41→k≤L.length→At L k (sb e.text)→pk L (k+(sb e.text).length)≠42→Ar L n cl e d k (sb e.text).length
def Gp (L:Its) (n:Nat) (cl:Nat→Nat→Cr) (e:RE):Prop:=∀d k,2*e.dep+d≤41→k≤L.length→At L k (sb e.text)→pk L (k+(sb e.text).length)≠42→eG (pk L (k+(sb e.text).length))=false→yw L n cl e d k (sb e.text).length
theorem Df.q {e:RE} (h:Df L n cl e):Gn L n cl e:=fun d k hd hk hA hn=>(h d k hd hk hA).q hn
theorem Gn.a {e:RE} (h:Gn L n cl e):Gp L n cl e:=fun d k hd hk hA hn ha=>(h d k hd hk hA hn).a ha
theorem Gp.held {e:RE} (h:Gp L n cl e) {d k:Nat} (hd:2*e.dep+d≤40) (hk:k≤L.length) (hA:At L k (40::(sb e.text++[41]))):yu L n cl e d k (40::(sb e.text++[41])).length:=by
 have qW:pk L k=40:=hA.head
 have hB:At L (k+1) (sb e.text++[41]):=hA.tail
 have kG:pk L (k+1+(sb e.text).length)=41:=hB.right.head
 have:=h (d+1) (k+1) (by omega) (by have:=mV qW (by decide);omega) hB.left (by rw[kG];decide) (by rw[kG];decide)
 have hde:=e.BF
 have e1:(40::(sb e.text++[41])).length=(sb e.text).length+2:=by simp
 rw[e1]
 exact yw.held (by omega) qW kG this
theorem RT.of {e:RE} (hA:Gp L n cl e) (hP:([3,4]:List Int).contains e.kind=false→Df L n cl e) (hQ:([4]:List Int).contains e.kind=false→Gn L n cl e):RT L n cl e:=by
 refine⟨?_,?_,?_⟩
 · intro d k hd hk h
   unfold JZ at h ⊢
   rw[Dc] at h ⊢
   split at h
   · rename_i c;rw[if_pos c];exact hA.held hd hk h
   · rename_i c;rw[if_neg c];exact hP (by simpa using c) d k (by omega) hk h
 · intro d k hd hk h hn
   unfold QT at h hn ⊢
   rw[Dc] at h hn ⊢
   split at h
   · rename_i c;rw[if_pos c] at hn ⊢;exact(hA.held hd hk h).q hn
   · rename_i c;rw[if_neg c] at hn ⊢;exact hQ (by simpa using c) d k (by omega) hk h hn
 · intro d k hd hk h hn ha
   exact hA d k hd hk h hn ha
theorem XC (p q:RE):sb (RE.mk 3 [] [p,q]).text=sb (hold p.text ([4].contains p.kind))++sb (hold q.text ([3,4].contains q.kind)):=by
 rw[RE.jm,←gG,←MR];rfl
theorem XD (p q:RE):sb (RE.mk 4 [] [p,q]).text=sb p.text++124::sb (hold q.text ([4].contains q.kind)):=by
 rw[RE.jm]
 show sb ((p.text++⟨#[124]⟩)++hold q.text ([4].contains q.kind))=_
 rw[gG,gG,List.append_assoc];rfl
theorem XE (p:RE):sb (RE.mk 5 [] [p]).text=sb (hold p.text ([3,4].contains p.kind))++[42]:=by
 rw[RE.jm]
 show sb (hold p.text ([3,4].contains p.kind)++⟨#[42]⟩)=_
 rw[gG];rfl
theorem Vh (hP:Plain L n cl):∀(N:Nat) (e:RE),e.size≤N→e.prt=true→e.nn=false→RT L n cl e:=by
 intro N
 induction N with
 | zero=>intro e h;have:=e.size_pos;omega
 | succ N ih =>
  intro e hs hp hn
  have hsh:=RE.Tc hp
  have part:∀p∈e.parts,RT L n cl p∧p.dep+1≤e.dep:=by
   intro p hm
   obtain⟨i,hi,rfl⟩:=List.getElem_of_mem hm
   have hg:e.parts[i]? = some e.parts[i]:=by simp[hi]
   exact⟨ih _ (by have:=RE.jT hg;omega) (RE.O5 hp hg) (Tg hn hm),Pg hm⟩
  rcases RE.DZ hsh with h0|h1|h2|h3|h4|h5
  · rw[RE.Q6,h0] at hn;simp at hn
  ·
   have e1:=EG hsh (by omega)
   have hl:e.parts=[]:=by
    unfold RE.iN at hsh
    rw[if_neg (by omega)] at hsh
    split at hsh
    · cases hsh
    · rw [if_pos (.inr h1)] at hsh
      exact List.length_eq_zero_iff.1 (by simpa using hsh)
   rw[h1,hl] at e1
   have hO:Df L n cl e:=by
    intro d k hd hk hA
    have ht:sb e.text=[40,41]:=by rw[e1,RE.jm];rfl
    rw[ht] at hA ⊢
    have qW:pk L k=40:=hA.head
    have kG:pk L (k+1)=41:=hA.tail.head
    have abh:=e.BF
    refine⟨e,k+1+1,.par qW (by omega) (.mk ?_ (.stop ?_)) kG,fun _ _ h=>h⟩
    · rw[e1];exact .none (by rw[kG];decide)
    · rw[kG];decide
   exact .of hO.q.a (fun _=>hO) (fun _=>hO.q)
  ·
   obtain⟨e2,hne,hm⟩:=XA hsh h2.1
   have hO:Df L n cl e:=by
    intro d k hd hk hA
    have ht:e.text=uW e.set:=by rw[RE.jm,h2.1];rfl
    rw[ht] at hA ⊢
    refine⟨e,k+(sb (uW e.set)).length,?_,fun _ _ h=>h⟩
    rw[e2]
    exact Pb hP (O9 hm hne) hk hA
   exact .of hO.q.a (fun _=>hO) (fun _=>hO.q)
  ·
   have e3:=EG hsh (by omega)
   obtain⟨p,q,hl⟩:=len2 h3.2
   rw[h3.1,hl] at e3
   obtain⟨rp,dp⟩:=part p (by rw[hl];simp)
   obtain⟨rq,dq⟩:=part q (by rw[hl];simp)
   have hO:Gn L n cl e:=by
    intro d k hd hk hA hn2
    have ht:sb e.text=QT p++JZ q:=by rw[e3,XC];rfl
    rw[ht] at hA hn2 ⊢
    rw[List.length_append] at hn2 ⊢
    rw[←Nat.add_assoc] at hn2
    have hk2:k+(QT p).length≤L.length:=Q7 _ k (MP _) hA.left hk
    have hq:=rq.P d (k+(QT p).length) (by omega) hk2 hA.right
    obtain ⟨a, k0, ha, hc⟩ := rp.Q d k (by omega) hk hA.left (by
     obtain⟨x,kx,hx,_⟩:=hq
     exact(Tf (Aq hx)).1)
    have hat:eG (pk L (k+(QT p).length))=true:=by
     obtain⟨x,kx,hx,_⟩:=hq
     exact Aq hx
    refine⟨a,k0,ha,fun e' k' h=>hc e' k' (.go hat (hq.post hn2) ?_)⟩
    rw[←e3,Nat.add_assoc k]
    exact h
   exact .of hO.a (fun c=>by rw[h3.1] at c;exact absurd c (by decide)) (fun _=>hO)
  ·
   have e4:=EG hsh (by omega)
   obtain⟨p,q,hl⟩:=len2 h4.2
   rw[h4.1,hl] at e4
   obtain⟨rp,dp⟩:=part p (by rw[hl];simp)
   obtain⟨rq,dq⟩:=part q (by rw[hl];simp)
   have hO:Gp L n cl e:=by
    intro d k hd hk hA hn2 ha2
    have ht:sb e.text=sb p.text++124::QT q:=by rw[e4,XD];rfl
    rw[ht] at hA hn2 ha2 ⊢
    have e1:k+(sb p.text++124::QT q).length=k+(sb p.text).length+1+(QT q).length:=by simp;omega
    rw[e1] at hn2 ha2
    have KV:pk L (k+(sb p.text).length)=124:=hA.right.head
    have hk2:=mV KV (by decide)
    have hq:=rq.Q d (k+(sb p.text).length+1) (by omega) (by omega) hA.right.tail hn2
    obtain⟨a,k0,ha,hc⟩:=rp.A d k (by omega) hk hA.left (by rw[KV];decide) (by rw[KV];decide)
    refine⟨a,k0,ha,fun e' k' h=>hc e' k' (.go KV (hq.alt ha2) ?_)⟩
    rw[←e4,←e1]
    exact h
   exact .of hO (fun c=>by rw[h4.1] at c;exact absurd c (by decide)) (fun c=>by rw[h4.1] at c;exact absurd c (by decide))
  ·
   have e5:=EG hsh (by omega)
   obtain⟨p,hl⟩:=List.length_eq_one_iff.1 h5.2
   rw[h5.1,hl] at e5
   obtain⟨rp,dp⟩:=part p (by rw[hl];simp)
   have hO:Df L n cl e:=by
    intro d k hd hk hA
    have ht:sb e.text=JZ p++[42]:=by rw[e5,XE];rfl
    rw[ht] at hA ⊢
    have Fg:pk L (k+(JZ p).length)=42:=hA.right.head
    obtain⟨a,k0,ha,hc⟩:=rp.P d k (by omega) hk hA.left
    refine⟨a,k0,ha,fun e' k' h=>hc e' k' (.go Fg ?_)⟩
    rw[←e5]
    rw[List.length_append,←Nat.add_assoc] at h
    exact h
   exact .of hO.q.a (fun _=>hO) (fun _=>hO.q)
theorem reads (hP:Plain L n cl) {e:RE} (h1:e.prt=true) (h2:e.nn=false) (h3:e.dep≤20) (hA:At L 0 (sb e.text)) (hL:L.length=(sb e.text).length):iG L n cl 0 0 e L.length:=by
 have hend:pk L (sb e.text).length=-1:=pq (by omega)
 have:=(Vh hP e.size e (Nat.le_refl _) h1 h2).A 0 0 (by omega) (by omega) hA (by rw[Nat.zero_add,hend];decide) (by rw[Nat.zero_add,hend];decide)
 have:=this.alts (by rw[Nat.zero_add,hend];decide)
 rw[Nat.zero_add] at this
 rw[hL]
 exact this
end
end Pm
end Go.Proofs.YtfkmajjgkdjncaaGreatDoor
