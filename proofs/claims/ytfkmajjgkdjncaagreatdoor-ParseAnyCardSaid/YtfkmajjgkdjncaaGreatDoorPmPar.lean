/- Merged. -/
import Derived.Test.YtfkmajjgkdjncaaGreatDoorPmRe
set_option linter.unusedVariables false
set_option linter.unusedSimpArgs false
namespace Go.Proofs.YtfkmajjgkdjncaaGreatDoor
open De
namespace Wd
structure Pw where
 k:Int
 t:List Int
def Pw.txt (p:Pw):List Int:=if p.k=4 then 47::(p.t++[47]) else p.t
def flat:List Pw→List Int
 | []=>[]
 | p::l=>p.txt++flat l
theorem lC (a b:List Pw):flat (a++b)=flat a++flat b:=by
 induction a with
 | nil=>rfl
 | cons p a ih=>simp[flat,ih]
def Ex (t:List Int):Prop:=∀u,ex false (t++47::u)=some t.length
inductive PK:Pw→Prop
 | sp:PK ⟨0,[32]⟩
 | nm {c:Int} {u:List Int} (h:kZ c=true) (hu:∀x∈u,eD x=true):PK ⟨1,c::u⟩
 | dg {c:Int} {u:List Int} (h:dN c=true) (hu:∀x∈u,dN x=true):PK ⟨2,c::u⟩
 | sg {c:Int} (h:c∈signs):PK ⟨3,[c]⟩
 | ex {t:List Int} (h:Ex t):PK ⟨4,t⟩
 | ln:PK ⟨5,[10]⟩
def fr (p:Pw) (l:List Pw):Prop:=(p.k=1∨p.k=2)→∀q l',l=q::l'→q.k≠1∧q.k≠2
inductive vV:List Pw→Prop
 | nil:vV []
 | cons {p:Pw} {l:List Pw} (h:PK p) (f:fr p l) (r:vV l):vV (p::l)
theorem vV.one {p:Pw} (h:PK p):vV [p]:=.cons h (fun _ q l' e=>by cases e) .nil
theorem vV.app {a b:List Pw} (ha:vV a) (hb:vV b) (h:(∀p,a.getLast? = some p→p.k≠1∧p.k≠2)∨(∀q,b.head? = some q→q.k≠1∧q.k≠2)):vV (a++b):=by
 induction ha with
 | nil=>exact hb
 | @cons p l hp f r ih =>
  refine .cons hp ?_ (ih ?_)
  · intro hk q l' e
    cases l with
    | nil =>
     rcases h with h|h
     · have:=h p rfl;omega
     · exact h q (by rw[show b=q::l' from e];rfl)
    | cons x l=>cases e;exact f hk _ _ rfl
  · rcases h with h | h
    · cases l with
      | nil=>exact .inl (fun p hp=>by cases hp)
      | cons x l=>exact .inl (fun p hp=>h p (by rw[List.getLast?_cons_cons];exact hp))
    · exact .inr h
theorem Ql:∀c∈signs,¬(c=32∨c=9∨c=13)∧c≠35∧c≠10∧c≠47∧kZ c=false∧dN c=false∧vL c=true∧eD c=false:=by decide
theorem PK.head {q:Pw} (h:PK q) (h1:q.k≠1∧q.k≠2):∃c u,q.txt=c::u∧eD c=false∧dN c=false:=by
 cases h with
 | sp=>exact⟨32,[],rfl,by decide,by decide⟩
 | nm _ _=>exact absurd rfl h1.1
 | dg _ _=>exact absurd rfl h1.2
 | @sg c h=>have:=Ql c h;exact⟨c,[],rfl,this.2.2.2.2.2.2.2,this.2.2.2.2.2.1⟩
 | @ex t _=>exact⟨47,t++[47],rfl,by decide,by decide⟩
 | ln=>exact⟨10,[],rfl,by decide,by decide⟩
def Pw.wt (p:Pw):Wt:=⟨p.k,if p.k=4 then 1 else 0,if p.k=0∨p.k=5 then 0 else p.t.length,p.txt.length⟩
def vw (S:List Int) (p:Nat×Wt):Int×List Int:=(p.2.k,(S.drop (p.1+p.2.o)).take p.2.n)
def says (l:List Pw):List (Int×List Int):=(l.filter (fun p=>!(decide (p.k=0)))).map fun p=>(p.k,if p.k=5 then [] else p.t)
theorem Io (a b:List Pw):says (a++b)=says a++says b:=by simp[says]
def Tx (t:List Int):Prop:=(∀c∈t,c≠10∧c≠47)∧∀c,t.getLast? = some c→c≠92
theorem Tx.app {a b:List Int} (ha:Tx a) (hb:Tx b):Tx (a++b):=by
 refine⟨fun c hc=>?_,fun c hc=>?_⟩
 · rcases List.mem_append.1 hc with h | h
   · exact ha.1 c h
   · exact hb.1 c h
 · rw [List.getLast?_append] at hc
   cases hb2:b.getLast? with
   | none=>rw[hb2] at hc;exact ha.2 c (by simpa using hc)
   | some x=>rw[hb2] at hc;exact hb.2 c (by rw[hb2];simpa using hc)
theorem Tx.nil:Tx []:=⟨(fun c h=>nomatch h),(fun c h=>nomatch h)⟩
theorem Tx.one {c:Int} (h:c≠10∧c≠47∧c≠92):Tx [c]:=⟨fun x hx=>by simp at hx;subst hx;exact⟨h.1,h.2.1⟩,fun x hx=>by simp at hx;subst hx;exact h.2.2⟩
end Wd
end Go.Proofs.YtfkmajjgkdjncaaGreatDoor

namespace Go.Proofs.YtfkmajjgkdjncaaGreatDoor
open Go.RowKit De Wd Ru
namespace Pm
theorem RN {b:ByteArray} (h:cK b=true):PK ⟨1,sb b⟩:=by
 unfold cK at h
 simp only[Bool.and_eq_true,decide_eq_true_eq,List.all_eq_true,List.mem_range] at h
 obtain⟨h1,h2,h3,h4,h5,-⟩:=h
 have hb:∀i (hi:i<b.size),b.get! i=b.data[i]:=fun i hi=>by rw[get!_eq hi];rfl
 have hz:b.data.toList.length=b.size:=rfl
 cases hl:b.data.toList with
 | nil=>rw[hl] at hz;simp at hz;omega
 | cons x u =>
  have e:sb b=(x.toNat:Int)::u.map (fun b=>(b.toNat:Int)):=by unfold sb;rw[hl];rfl
  rw[e]
  refine .nm ?_ ?_
  · have := hb 0 (by omega)
    have hx : b.data[0]'(by have : b.data.size = b.size := rfl; omega) = x := by
     have:b.data.toList[0]? = some x:=by rw[hl];rfl
     exact(Array.getElem?_eq_some_iff.1 (by simpa using this)).2
    rw[hx] at this
    rw[this] at h3 h4
    simp[kZ];omega
  · intro c hc
    obtain⟨y,hy,rfl⟩:=List.mem_map.1 hc
    obtain⟨i,hi,rfl⟩:=List.getElem_of_mem hy
    have hi2:i+1<b.size:=by rw[←hz,hl];simp;exact hi
    have h6:=h5 (i+1) hi2
    rw[hb _ hi2] at h6
    have hx : b.data[i + 1]'(by have : b.data.size = b.size := rfl; omega) = u[i] := by
     have:b.data.toList[i+1]? = some u[i]:=by rw[hl];simp[hi]
     exact(Array.getElem?_eq_some_iff.1 (by simpa using this)).2
    rw[hx] at h6
    unfold rP at h6
    simp at h6
    simp[eD,kZ,dN]
    omega
def uP:List ByteArray→List Pw
 | []=>[]
 | [b]=>[⟨1,sb b⟩]
 | b::c::l=>⟨1,sb b⟩::⟨0,[32]⟩::uP (c::l)
theorem Ls (l:List UInt8):sb ⟨l.toArray⟩=l.map (fun b=>(b.toNat:Int)):=by simp[sb]
theorem AP:∀l:List ByteArray,flat (uP l)=sb (lX l)
 | []=>rfl
 | [b] => by
  have:sb (lX [b])=sb b:=by
   unfold lX
   rw[Ls]
   simp[Lib.join,List.intercalate,List.intersperse,sb]
  rw[this]
  simp[uP,flat,Pw.txt]
 | b :: c :: l => by
  have ih:=AP (c::l)
  have e:sb (lX (b::c::l))=sb b++32::sb (lX (c::l)):=by
   unfold lX
   rw[Ls,Ls]
   simp[Lib.join,List.intercalate,List.intersperse,sb]
  rw[e,←ih]
  simp[uP,flat,Pw.txt]
def jX (c:Int):Pw:=⟨3,[c]⟩
theorem NN:∀l:List ByteArray,(∀b∈l,cK b=true)→vV (uP l)
 | [],_=>.nil
 | [b],h=>.one (RN (h b (by simp)))
 | b :: c :: l, h => by
  have ih:=NN (c::l) (fun x hx=>h x (by simp at hx ⊢;exact .inr hx))
  exact .cons (RN (h b (by simp))) (fun _ q l' e=>by cases e;exact⟨by decide,by decide⟩) (.cons .sp (fun hk=>by rcases hk with hk|hk<;>exact absurd hk (by decide)) ih)
structure jH (l:List Pw):Prop where
 ok:vV l
 ne:l≠[]
 h:∀q,l.head? = some q→q.k=3
 t:∀q,l.getLast? = some q→q.k=3
theorem jH.one {c:Int} (h:c∈signs):jH [jX c]:=⟨.one (.sg h),by simp,fun q e=>by cases e;rfl,fun q e=>by cases e;rfl⟩
theorem jH.app {a b:List Pw} (ha:jH a) (hb:jH b):jH (a++b):=by
 refine⟨ha.ok.app hb.ok (.inl fun p hp=>by have:=ha.t p hp;omega),by simp[ha.ne],fun q e=>?_,fun q e=>?_⟩
 · have := ha.ne
   cases a with
   | nil=>exact absurd rfl this
   | cons x a=>exact ha.h q (by simpa using e)
 · have := hb.ne
   rw[List.getLast?_append] at e
   cases hx:b.getLast? with
   | none=>rw[List.getLast?_eq_none_iff] at hx;exact absurd hx this
   | some x=>rw[hx] at e;simp at e;subst e;exact hb.t _ hx
theorem jH.mid {a b:List Pw} {l:List ByteArray} (ha:jH a) (hl:∀x∈l,cK x=true) (hb:jH b):jH (a++uP l++b):=by
 have h1:vV (a++uP l):=ha.ok.app (NN l hl) (.inl fun p hp=>by have:=ha.t p hp;omega)
 refine⟨h1.app hb.ok (.inr fun p hp=>by have:=hb.h p hp;omega),by simp[ha.ne],fun q e=>?_,fun q e=>?_⟩
 · have := ha.ne
   cases a with
   | nil=>exact absurd rfl this
   | cons x a=>exact ha.h q (by simpa using e)
 · have := hb.ne
   rw[List.getLast?_append] at e
   cases hx:b.getLast? with
   | none=>rw[List.getLast?_eq_none_iff] at hx;exact absurd hx this
   | some x=>rw[hx] at e;simp at e;subst e;exact hb.t _ hx
theorem jH.gap {a b:List Pw} (ha:jH a) (hb:jH b):jH (a++⟨0,[32]⟩::b):=by
 have h1:vV ((⟨0,[32]⟩:Pw)::b):=.cons .sp (fun hk=>by rcases hk with hk|hk<;>exact absurd hk (by decide)) hb.ok
 refine⟨ha.ok.app h1 (.inl fun p hp=>by have:=ha.t p hp;omega),by simp,fun q e=>?_,fun q e=>?_⟩
 · have := ha.ne
   cases a with
   | nil=>exact absurd rfl this
   | cons x a=>exact ha.h q (by simpa using e)
 · have := hb.ne
   rw[List.getLast?_append] at e
   cases b with
   | nil=>exact absurd rfl this
   | cons y b =>
    rw[List.getLast?_cons_cons] at e
    cases hx:(y::b).getLast? with
    | none=>rw[List.getLast?_eq_none_iff] at hx;cases hx
    | some x=>rw[hx] at e;simp at e;subst e;exact hb.t _ hx
def kC (l:List Pw) (m:Bool):List Pw:=if m=true then [jX 40]++l++[jX 41] else l
theorem uQ (l:List Pw) (t:ByteArray) (m:Bool) (h:flat l=sb t):flat (kC l m)=sb (hold t m):=by
 rw[Dc]
 unfold kC
 split
 · rw[lC,lC,h];simp[flat,jX,Pw.txt]
 · exact h
theorem jH.hold {l:List Pw} (h:jH l) (m:Bool):jH (kC l m):=by
 unfold kC
 split
 · exact((jH.one (by decide)).app h).app (jH.one (by decide))
 · exact h
def RO (k:Int) (ns es:List ByteArray) (ks:List Int) (ts:List (List Pw)):List Pw:=
 if k=2 then [jX 123]++uP ns++[jX 125]
 else if k=4 then [jX 95]
 else if k=3 then ([jX 60]++uP ns++([jX 58]++ts.getD 0 []++[jX 58]))++uP es++[jX 62]
 else if k=5 then kC (ts.getD 0 []) ([6].contains (ks.getD 0 0))++⟨0,[32]⟩::kC (ts.getD 1 []) ([6,5].contains (ks.getD 1 0))
 else if k=6 then ts.getD 0 []++[jX 124]++kC (ts.getD 1 []) ([6].contains (ks.getD 1 0))
 else if k=7 then kC (ts.getD 0 []) ([5,6].contains (ks.getD 0 0))++[jX 42]
 else [jX 40]++[jX 41]
end Pm
namespace PT
mutual
def aT:PT→List Wd.Pw
 | .mk k ns es l=>Pm.RO k ns es (l.map kind) (Ip l)
def Ip:List PT→List (List Wd.Pw)
 | []=>[]
 | e::l=>aT e::Ip l
end
theorem Qm (l:List PT):Ip l=l.map aT:=by
 induction l with
 | nil=>rw[Ip];rfl
 | cons a l ih=>rw[Ip,ih];rfl
theorem uz (e:PT):e.aT=Pm.RO e.kind e.names e.ends (e.parts.map kind) (e.parts.map aT):=by
 cases e with
 | mk k ns es l=>rw[aT,Qm];rfl
end PT
namespace Pm
inductive yU:PT→Prop
 | mk (k:Int) (ns es:List ByteArray) (l:List PT) (hs:(PT.mk k ns es l).iN=true) (hn:∀b∈ns,cK b=true) (he:∀b∈es,cK b=true) (h:∀p∈l,yU p):yU (.mk k ns es l)
theorem yU.forms {p:PT} (h:yU p):(p=.mk 1 [] [] [])∨(p=.mk 4 [] [] [])∨(∃ns,p=.mk 2 ns [] []∧ns≠[]∧∀b∈ns,cK b=true) ∨
 (∃ns es q,p=.mk 3 ns es [q]∧ns≠[]∧es≠[]∧(∀b∈ns,cK b=true)∧(∀b∈es,cK b=true)∧yU q) ∨
 (∃q r,p=.mk 5 [] [] [q,r]∧yU q∧yU r)∨(∃q r,p=.mk 6 [] [] [q,r]∧yU q∧yU r)∨(∃q,p=.mk 7 [] [] [q]∧yU q):=by
 cases h with
 | mk k ns es l hs hn he h =>
  rw[JX,decide_eq_true_iff] at hs
  simp only[PT.kind,PT.names,PT.ends,PT.parts] at hs
  have z:∀ {α:Type} {x:List α},x.length=0→x=[]:=fun h=>List.length_eq_zero_iff.1 h
  rcases hs with⟨hk,h1,h2,h3⟩|⟨hk,h1,h2,h3⟩|⟨hk,h1,h2,h3⟩|⟨hk,h1,h2,h3⟩|⟨hk,h1,h2,h3⟩
  · rcases hk with hk | hk
    · exact .inl (by rw[hk,z h1,z h2,z h3])
    · exact .inr (.inl (by rw[hk,z h1,z h2,z h3]))
  · exact .inr (.inr (.inl ⟨ns,by rw[hk,z h2,z h3],fun e=>by rw[e] at h1;simp at h1,hn⟩))
  · obtain ⟨q, hq⟩ := List.length_eq_one_iff.1 h3
    exact .inr (.inr (.inr (.inl ⟨ns,es,q,by rw[hk,hq],fun e=>by rw[e] at h1;simp at h1,fun e=>by rw[e] at h2;simp at h2,hn,he,h q (by rw[hq];simp)⟩)))
  · obtain ⟨q, r, hq⟩ := len2 h3
    have a:=h q (by rw[hq];simp)
    have b:=h r (by rw[hq];simp)
    rcases hk with hk|hk
    · exact .inr (.inr (.inr (.inr (.inl ⟨q,r,by rw[hk,hq,z h1,z h2],a,b⟩))))
    · exact .inr (.inr (.inr (.inr (.inr (.inl ⟨q,r,by rw[hk,hq,z h1,z h2],a,b⟩)))))
  · obtain ⟨q, hq⟩ := List.length_eq_one_iff.1 h3
    exact .inr (.inr (.inr (.inr (.inr (.inr ⟨q,by rw[hk,hq,z h1,z h2],h q (by rw[hq];simp)⟩)))))
theorem WU:(PT.mk 1 [] [] []).aT=[jX 40]++[jX 41]:=by rw[PT.uz];rfl
theorem WV:(PT.mk 4 [] [] []).aT=[jX 95]:=by rw[PT.uz];rfl
theorem WW (ns:List ByteArray):(PT.mk 2 ns [] []).aT=[jX 123]++uP ns++[jX 125]:=by rw[PT.uz];rfl
theorem WX (ns es:List ByteArray) (q:PT):(PT.mk 3 ns es [q]).aT=([jX 60]++uP ns++([jX 58]++q.aT++[jX 58]))++uP es++[jX 62]:=by rw[PT.uz];rfl
theorem WY (q r:PT):(PT.mk 5 [] [] [q,r]).aT=kC q.aT ([6].contains q.kind)++⟨0,[32]⟩::kC r.aT ([6,5].contains r.kind):=by rw[PT.uz];rfl
theorem WZ (q r:PT):(PT.mk 6 [] [] [q,r]).aT=q.aT++[jX 124]++kC r.aT ([6].contains r.kind):=by rw[PT.uz];rfl
theorem Xa (q:PT):(PT.mk 7 [] [] [q]).aT=kC q.aT ([5,6].contains q.kind)++[jX 42]:=by rw[PT.uz];rfl
theorem zi:∀(N:Nat) (p:PT),p.size≤N→yU p→flat p.aT=sb p.text∧jH p.aT:=by
 intro N
 induction N with
 | zero=>intro p h;have:=p.size_pos;omega
 | succ N ih =>
  intro p hs h
  rcases h.forms with rfl|rfl|⟨ns,rfl,hne,hn⟩|⟨ns,es,q,rfl,hne,hee,hn,he,hq⟩|⟨q,r,rfl,hq,hr⟩|⟨q,r,rfl,hq,hr⟩|⟨q,rfl,hq⟩
  · refine ⟨by rw [WU, PT.jm]; rfl, ?_⟩
    rw[WU];exact(jH.one (by decide)).app (jH.one (by decide))
  · refine ⟨by rw [WV, PT.jm]; rfl, ?_⟩
    rw[WV];exact jH.one (by decide)
  · refine ⟨?_, ?_⟩
    · rw [WW, PT.jm]
      show _=sb ((⟨#[123]⟩++lX ns)++⟨#[125]⟩)
      rw[lC,lC,AP,gG,gG];rfl
    · rw[WW];exact(jH.one (by decide)).mid hn (jH.one (by decide))
  · obtain ⟨f1, s1⟩ := ih q (by rw [PT.size_mk, PT.eX, PT.kT] at hs; omega) hq
    refine⟨?_,?_⟩
    · rw [WX, PT.jm]
      show _=sb ((((((⟨#[60]⟩++lX ns)++⟨#[58]⟩)++q.text)++⟨#[58]⟩)++lX es)++⟨#[62]⟩)
      simp only[lC,AP,gG,f1,List.append_assoc];rfl
    · rw [WX]
      exact((jH.one (by decide)).mid hn (((jH.one (by decide)).app s1).app (jH.one (by decide)))).mid he (jH.one (by decide))
  · obtain ⟨f1, s1⟩ := ih q (by rw [PT.size_mk, PT.eX, PT.eX, PT.kT] at hs; omega) hq
    obtain⟨f2,s2⟩:=ih r (by rw[PT.size_mk,PT.eX,PT.eX,PT.kT] at hs;omega) hr
    refine⟨?_,?_⟩
    · rw [WY, PT.jm]
      show _=sb ((hold q.text ([6].contains q.kind)++⟨#[32]⟩)++hold r.text ([6,5].contains r.kind))
      rw[lC,uQ _ _ _ f1,gG,gG,List.append_assoc,flat,uQ _ _ _ f2];rfl
    · rw[WY];exact(s1.hold _).gap (s2.hold _)
  · obtain ⟨f1, s1⟩ := ih q (by rw [PT.size_mk, PT.eX, PT.eX, PT.kT] at hs; omega) hq
    obtain⟨f2,s2⟩:=ih r (by rw[PT.size_mk,PT.eX,PT.eX,PT.kT] at hs;omega) hr
    refine⟨?_,?_⟩
    · rw [WZ, PT.jm]
      show _=sb ((q.text++⟨#[124]⟩)++hold r.text ([6].contains r.kind))
      rw[lC,lC,f1,gG,gG,uQ _ _ _ f2];rfl
    · rw[WZ];exact(s1.app (jH.one (by decide))).app (s2.hold _)
  · obtain ⟨f1, s1⟩ := ih q (by rw [PT.size_mk, PT.eX, PT.kT] at hs; omega) hq
    refine⟨?_,?_⟩
    · rw [Xa, PT.jm]
      show _=sb (hold q.text ([5,6].contains q.kind)++⟨#[42]⟩)
      rw[lC,uQ _ _ _ f1,gG];rfl
    · rw[Xa];exact(s1.hold _).app (jH.one (by decide))
end Pm
end Go.Proofs.YtfkmajjgkdjncaaGreatDoor

namespace Go.Proofs.YtfkmajjgkdjncaaGreatDoor
open Go.RowKit De Wd Ru
namespace Pm
abbrev Ws:=List (Int×List Int)
def sg (V:Ws) (k:Nat) (c:Int):Prop:=V[k]? = some (3,[c])
instance (V:Ws) (k:Nat) (c:Int):Decidable (sg V k c):=inferInstanceAs (Decidable (_=_))
def vk (V:Ws) (k:Nat):Int:=match V[k]? with|some p=>p.1|none=>0
def jq (V:Ws) (k:Nat):Prop:=sg V k 123∨sg V k 95∨sg V k 40∨sg V k 60
instance (V:Ws) (k:Nat):Decidable (jq V k):=inferInstanceAs (Decidable (_∨_∨_∨_))
theorem mZ {V : Ws} {k : Nat} {a b : Int} (h : sg V k a) (hab : a ≠ b) : ¬ sg V k b := fun h2 => by
 unfold sg at h h2;rw[h] at h2;simp at h2;exact hab h2
inductive ny (V:Ws):Nat→List ByteArray→Nat→Prop
 | last {k:Nat} {b:ByteArray} (h:V[k]? = some (1,sb b)) (hb:cK b=true) (h2:vk V (k+1)≠1):ny V k [b] (k+1)
 | more {k j:Nat} {b:ByteArray} {l:List ByteArray} (h:V[k]? = some (1,sb b)) (hb:cK b=true) (r:ny V (k+1) l j):ny V k (b::l) j
section
variable (V:Ws)
mutual
inductive iT:Nat→Nat→PT→Nat→Prop
 | mk {d k k1 k2:Nat} {a e:PT} (h:rE d k a k1) (r:uw d a k1 e k2):iT d k e k2
inductive uw:Nat→PT→Nat→PT→Nat→Prop
 | stop {d k:Nat} {a:PT} (h:¬sg V k 124):uw d a k a k
 | go {d k k1 k2:Nat} {a b e:PT} (h:sg V k 124) (p:rE d (k+1) b k1) (r:uw d (.mk 6 [] [] [a,b]) k1 e k2):uw d a k e k2
inductive rE:Nat→Nat→PT→Nat→Prop
 | mk {d k k1 k2:Nat} {a e:PT} (p:nV d k a k1) (r:wX d a k1 e k2):rE d k e k2
inductive wX:Nat→PT→Nat→PT→Nat→Prop
 | stop {d k:Nat} {a:PT} (h:¬jq V k):wX d a k a k
 | go {d k k1 k2:Nat} {a b e:PT} (h:jq V k) (p:nV d k b k1) (r:wX d (.mk 5 [] [] [a,b]) k1 e k2):wX d a k e k2
inductive nV:Nat→Nat→PT→Nat→Prop
 | mk {d k k1 k2:Nat} {a e:PT} (h:nT d k a k1) (r:uq a k1 e k2):nV d k e k2
inductive uq:PT→Nat→PT→Nat→Prop
 | stop {k:Nat} {a:PT} (h:¬sg V k 42):uq a k a k
 | go {k k2:Nat} {a e:PT} (h:sg V k 42) (r:uq (.mk 7 [] [] [a]) (k+1) e k2):uq a k e k2
inductive nT:Nat→Nat→PT→Nat→Prop
 | tok {d k j:Nat} {ns:List ByteArray} (h:sg V k 123) (n:ny V (k+1) ns j) (h2:sg V j 125):nT d k (.mk 2 ns [] []) (j+1)
 | well {d k:Nat} (h:sg V k 95):nT d k (.mk 4 [] [] []) (k+1)
 | inn {d k j k1 j2:Nat} {ns es:List ByteArray} {p:PT} (h:sg V k 60) (hd:d<40) (n:ny V (k+1) ns j) (h2:sg V j 58) (q:iT (d+1) (j+1) p k1) (h3:sg V k1 58) (n2:ny V (k1+1) es j2) (h4:sg V j2 62):nT d k (.mk 3 ns es [p]) (j2+1)
 | non {d k:Nat} (h:sg V k 40) (hd:d<40) (h2:sg V (k+1) 41):nT d k (.mk 1 [] [] []) (k+1+1)
 | par {d k k1:Nat} {p:PT} (h:sg V k 40) (hd:d<40) (h2:¬sg V (k+1) 41) (q:iT (d+1) (k+1) p k1) (h3:sg V k1 41):nT d k p (k1+1)
end
end
def Av (V:Ws) (k:Nat) (t:Ws):Prop:=∀i,i<t.length→V[k+i]? = t[i]?
theorem Av.head {V:Ws} {k:Nat} {c:Int×List Int} {t:Ws} (h:Av V k (c::t)):V[k]? = some c:=by have:=h 0 (by simp);simpa using this
theorem Av.tail {V : Ws} {k : Nat} {c : Int × List Int} {t : Ws} (h : Av V k (c :: t)) : Av V (k + 1) t := fun i hi => by
 have:=h (i+1) (by simpa using hi)
 rw[show k+1+i=k+(i+1) by omega,this];simp
theorem Av.left {V : Ws} {k : Nat} {s t : Ws} (h : Av V k (s ++ t)) : Av V k s := fun i hi => by
 rw[h i (by rw[List.length_append];omega),List.getElem?_append_left hi]
theorem Av.right {V : Ws} {k : Nat} {s t : Ws} (h : Av V k (s ++ t)) : Av V (k + s.length) t := fun i hi => by
 have:=h (s.length+i) (by rw[List.length_append];omega)
 rw[Nat.add_assoc,this,List.getElem?_append_right (by omega)]
 congr 1;omega
theorem Av.whole (V:Ws):Av V 0 V:=fun i hi=>by rw[Nat.zero_add]
section
variable {V:Ws}
theorem NP {d k k':Nat} {e:PT} (h:nT V d k e k'):jq V k:=by
 cases h with
 | tok h _ _=>exact .inl h
 | well h=>exact .inr (.inl h)
 | inn h _ _ _ _ _ _ _=>exact .inr (.inr (.inr h))
 | non h _ _=>exact .inr (.inr (.inl h))
 | par h _ _ _ _=>exact .inr (.inr (.inl h))
theorem Qn {k:Nat} (h:jq V k):¬sg V k 42∧¬sg V k 124∧¬sg V k 41:=by
 rcases h with h|h|h|h<;>exact⟨mZ h (by decide),mZ h (by decide),mZ h (by decide)⟩
theorem Qo {k:Nat} {c:Int} (h:sg V k c) (h1:c≠123∧c≠95∧c≠40∧c≠60):¬jq V k:=by
 rintro(h2|h2|h2|h2)<;>exact mZ h (by omega) h2
theorem NQ {d k k':Nat} {e:PT} (h:nV V d k e k'):jq V k:=by cases h with|mk h _=>exact NP h
theorem Qp {d k k':Nat} {e:PT} (h:rE V d k e k'):jq V k:=by cases h with|mk h _=>exact NQ h
theorem NR {d k k':Nat} {e:PT} (h:iT V d k e k'):jq V k:=by cases h with|mk h _=>exact Qp h
def yV (V:Ws) (e:PT) (d k m:Nat):Prop:=∃a k0,nT V d k a k0∧∀e' k',uq V e (k+m) e' k'→uq V a k0 e' k'
def AQ (V:Ws) (e:PT) (d k m:Nat):Prop:=∃a k0,nV V d k a k0∧∀e' k',wX V d e (k+m) e' k'→wX V d a k0 e' k'
def yX (V:Ws) (e:PT) (d k m:Nat):Prop:=∃a k0,rE V d k a k0∧∀e' k',uw V d e (k+m) e' k'→uw V d a k0 e' k'
theorem yV.post {e:PT} {d k m:Nat} (h:yV V e d k m) (hn:¬sg V (k+m) 42):nV V d k e (k+m):=by
 obtain⟨a,k0,ha,hc⟩:=h
 exact .mk ha (hc _ _ (.stop hn))
theorem yV.q {e:PT} {d k m:Nat} (h:yV V e d k m) (hn:¬sg V (k+m) 42):AQ V e d k m:=⟨e,k+m,h.post hn,fun _ _ h=>h⟩
theorem AQ.alt {e:PT} {d k m:Nat} (h:AQ V e d k m) (ha:¬jq V (k+m)):rE V d k e (k+m):=by
 obtain⟨a,k0,hp,hc⟩:=h
 exact .mk hp (hc _ _ (.stop ha))
theorem AQ.a {e:PT} {d k m:Nat} (h:AQ V e d k m) (ha:¬jq V (k+m)):yX V e d k m:=⟨e,k+m,h.alt ha,fun _ _ h=>h⟩
theorem yX.alts {e:PT} {d k m:Nat} (h:yX V e d k m) (ha:¬sg V (k+m) 124):iT V d k e (k+m):=by
 obtain⟨a,k0,hp,hc⟩:=h
 exact .mk hp (hc _ _ (.stop ha))
theorem yX.held {e:PT} {d k m:Nat} (hd:d<40) (qW:sg V k 40) (kG:sg V (k+1+m) 41) (h:yX V e (d+1) (k+1) m):yV V e d k (m+2):=by
 have ha:=h.alts (mZ kG (by decide))
 exact⟨e,k+1+m+1,.par qW hd (fun h2=>(Qn (NR ha)).2.2 h2) ha kG,fun e' k' hp=>by rw[show k+1+m+1=k+(m+2) by omega];exact hp⟩
def PW (e:PT):Ws:=says (kC e.aT ([5,6].contains e.kind))
def QW (e:PT):Ws:=says (kC e.aT ([6].contains e.kind))
structure PR (V:Ws) (e:PT):Prop where
 P:∀d k,2*e.dep+d≤40→Av V k (PW e)→yV V e d k (PW e).length
 Q:∀d k,2*e.dep+d≤40→Av V k (QW e)→¬sg V (k+(QW e).length) 42→AQ V e d k (QW e).length
 A:∀d k,2*e.dep+d≤41→Av V k (says e.aT)→¬sg V (k+(says e.aT).length) 42→¬jq V (k+(says e.aT).length)→yX V e d k (says e.aT).length
def Lu (V:Ws) (e:PT):Prop:=∀d k,2*e.dep+d≤41→Av V k (says e.aT)→yV V e d k (says e.aT).length
def EL (V:Ws) (e:PT):Prop:=∀d k,2*e.dep+d≤41→Av V k (says e.aT)→¬sg V (k+(says e.aT).length) 42→AQ V e d k (says e.aT).length
def EM (V:Ws) (e:PT):Prop:=∀d k,2*e.dep+d≤41→Av V k (says e.aT)→¬sg V (k+(says e.aT).length) 42→¬jq V (k+(says e.aT).length)→yX V e d k (says e.aT).length
theorem Lu.q {e:PT} (h:Lu V e):EL V e:=fun d k hd hA hn=>(h d k hd hA).q hn
theorem EL.a {e:PT} (h:EL V e):EM V e:=fun d k hd hA hn ha=>(h d k hd hA hn).a ha
theorem Tt (e:PT):1≤e.dep:=by cases e;rw[PT.dep];omega
theorem Eo (l:List Pw) (m:Bool):says (kC l m)=if m=true then (3,[40])::(says l++[(3,[41])]) else says l:=by
 unfold kC
 split
 · rw[Io,Io];rfl
 · rfl
theorem EM.held {e:PT} (h:EM V e) {d k:Nat} (hd:2*e.dep+d≤40) (hA:Av V k ((3,[40])::(says e.aT++[(3,[41])]))):yV V e d k ((3,[40])::(says e.aT++[(3,[41])])).length:=by
 have qW:sg V k 40:=hA.head
 have hB:Av V (k+1) (says e.aT++[(3,[41])]):=hA.tail
 have kG:sg V (k+1+(says e.aT).length) 41:=hB.right.head
 have:=h (d+1) (k+1) (by omega) hB.left (mZ kG (by decide)) (Qo kG (by decide))
 have hde:=Tt e
 have e1:((3,[40])::(says e.aT++[(3,[41])]):Ws).length=(says e.aT).length+2:=by simp
 rw[e1]
 exact yX.held (by omega) qW kG this
theorem PR.of {e:PT} (hA:EM V e) (hP:([5,6]:List Int).contains e.kind=false→Lu V e) (hQ:([6]:List Int).contains e.kind=false→EL V e):PR V e:=by
 refine⟨?_,?_,?_⟩
 · intro d k hd h
   unfold PW at h ⊢
   rw[Eo] at h ⊢
   split at h
   · rename_i c;rw[if_pos c];exact hA.held hd h
   · rename_i c;rw[if_neg c];exact hP (by simpa using c) d k (by omega) h
 · intro d k hd h hn
   unfold QW at h hn ⊢
   rw[Eo] at h hn ⊢
   split at h
   · rename_i c;rw[if_pos c] at hn ⊢;exact(hA.held hd h).q hn
   · rename_i c;rw[if_neg c] at hn ⊢;exact hQ (by simpa using c) d k (by omega) h hn
 · intro d k hd h hn ha
   exact hA d k hd h hn ha
end
end Pm
end Go.Proofs.YtfkmajjgkdjncaaGreatDoor
