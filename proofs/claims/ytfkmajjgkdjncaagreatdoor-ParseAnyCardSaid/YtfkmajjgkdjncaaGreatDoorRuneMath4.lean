/- Merged. -/
set_option linter.unusedVariables false
set_option linter.unusedSimpArgs false
namespace Go.Proofs.YtfkmajjgkdjncaaGreatDoor.Ru
abbrev Pc:=Int×Int
def fM (r:Int):Bool:=decide (0≤r) && (decide (r≤1114111) && (decide (r<55296) || decide (57344≤r)))
def aA (n:Int):Int:=if n<0 then 0 else if n<55296 then n else if n<57344 then 55296 else if n≤1114111 then n-2048 else 1112064
def bW (p:Int):Int:=if p<55296 then p else p+2048
def bJ (x:Pc):Pc:=(aA x.1,if fM x.2=true then aA x.2+1 else aA x.2)
theorem jZ (r:Int):fM r=true↔0≤r∧r≤1114111∧(r<55296∨57344≤r):=by simp[fM]
theorem F7 (r:Int):fM r=false↔¬(0≤r∧r≤1114111∧(r<55296∨57344≤r)):=by rw[←jZ];simp
theorem mH (n:Int):0≤aA n∧aA n≤1112064:=by unfold aA;repeat' split<;>omega
theorem Al {r:Int} (h:fM r=true):aA r<1112064:=by rw[jZ] at h;unfold aA;repeat' split<;>omega
theorem JJ {p:Int} (h:0≤p) (h2:p<1112064):aA (bW p)=p:=by unfold bW;split<;>(unfold aA;repeat' split<;>omega)
theorem zh {r:Int} (h:fM r=true):bW (aA r)=r:=by rw[jZ] at h;unfold bW aA;repeat' split<;>omega
theorem F8 {p:Int} (h:0≤p) (h2:p<1112064):fM (bW p)=true:=by rw[jZ];unfold bW;split<;>omega
theorem tL {p q:Int}:p≤q↔bW p≤bW q:=by unfold bW;split<;>split<;>omega
theorem qM {p:Int} (h:0≤p) (h2:p<1112064):0≤bW p∧bW p≤1114111:=by unfold bW;split<;>omega
theorem Bz (x:Pc):0≤(bJ x).1∧(bJ x).1≤1112064∧0≤(bJ x).2∧(bJ x).2≤1112064:=by
 have h1:=mH x.1;have h2:=mH x.2
 unfold bJ
 by_cases h:fM x.2=true
 · have:=Al h;simp only[h,if_true];omega
 · simp only[h,if_false];simp;omega
def jU (P:List Pc) (p:Int):Prop:=∃q∈P,q.1≤p∧p<q.2
def Nf:Int→List Pc→Prop
 | _,[]=>True
 | b,q::P=>b<q.1∧q.1<q.2∧Nf q.2 P
def Bd (P:List Pc):Prop:=∀q∈P,q.2≤1112064
theorem vO (p:Int):¬jU [] p:=by simp[jU]
theorem dF (q:Pc) (P:List Pc) (p:Int):jU (q::P) p↔(q.1≤p∧p<q.2)∨jU P p:=by simp[jU]
theorem Nf.weaken {a b:Int} {P:List Pc} (h:Nf b P) (hab:a≤b):Nf a P:=by
 cases P with
 | nil=>trivial
 | cons q P=>exact⟨by have:=h.1;omega,h.2⟩
theorem Nf.above:∀ {b:Int} {P:List Pc} (h:Nf b P) {p:Int},jU P p→b<p
 | b,[],_,p,hp=>absurd hp (vO p)
 | b, q :: P, h, p, hp => by
  rcases(dF q P p).1 hp with hp|hp
  · have:=h.1;omega
  · have:=Nf.above h.2.2 hp;have:=h.1;have:=h.2.1;omega
theorem Nf.uniq:∀ {a b:Int} {P Q:List Pc},Nf a P→Nf b Q→(∀p,jU P p↔jU Q p)→P=Q
 | _,_,[],[],_,_,_=>rfl
 | _,_,[],q::Q,_,hQ,h=>absurd ((h q.1).2 ((dF q Q _).2 (.inl ⟨Int.le_refl _,hQ.2.1⟩))) (vO _)
 | _,_,q::P,[],hP,_,h=>absurd ((h q.1).1 ((dF q P _).2 (.inl ⟨Int.le_refl _,hP.2.1⟩))) (vO _)
 | _, _, q :: P, r :: Q, hP, hQ, h => by
  obtain⟨_,hq,hP'⟩:=hP
  obtain⟨_,hr,hQ'⟩:=hQ
  have k1:r.1≤q.1:=by
   rcases(dF r Q _).1 ((h q.1).1 ((dF q P _).2 (.inl ⟨Int.le_refl _,hq⟩))) with k|k
   · exact k.1
   · have:=hQ'.above k;omega
  have k2:q.1≤r.1:=by
   rcases(dF q P _).1 ((h r.1).2 ((dF r Q _).2 (.inl ⟨Int.le_refl _,hr⟩))) with k|k
   · exact k.1
   · have:=hP'.above k;omega
  have k3:r.2≤q.2:=by
   apply Int.not_lt.1;intro hlt
   rcases(dF q P _).1 ((h q.2).2 ((dF r Q _).2 (.inl ⟨by omega,hlt⟩))) with k|k
   · omega
   · have:=hP'.above k;omega
  have k4:q.2≤r.2:=by
   apply Int.not_lt.1;intro hlt
   rcases(dF r Q _).1 ((h r.2).1 ((dF q P _).2 (.inl ⟨by omega,hlt⟩))) with k|k
   · omega
   · have:=hQ'.above k;omega
  obtain⟨q1,q2⟩:=q
  obtain⟨r1,r2⟩:=r
  simp only at *
  obtain rfl:q1=r1:=by omega
  obtain rfl:q2=r2:=by omega
  have e:P=Q:=Nf.uniq hP' hQ' (by
   intro p
   constructor
   · intro hp
     rcases(dF _ Q _).1 ((h p).1 ((dF _ P _).2 (.inr hp))) with k|k
     · have:=hP'.above hp;simp at k;omega
     · exact k
   · intro hp
     rcases(dF _ P _).1 ((h p).2 ((dF _ Q _).2 (.inr hp))) with k|k
     · have:=hQ'.above hp;simp at k;omega
     · exact k)
  rw[e]
def ins (p:Pc):List Pc→List Pc
 | []=>[p]
 | q::l=>if p.1≤q.1 then p::q::l else q::ins p l
def rH:List Pc→List Pc
 | []=>[]
 | p::l=>ins p (rH l)
def oG:Pc→List Pc→List Pc
 | c,[]=>[c]
 | c,p::l=>if p.1≤c.2 then oG (c.1,max c.2 p.2) l else c::oG p l
def merge:List Pc→List Pc
 | []=>[]
 | p::l=>oG p l
def raw (l:List Pc):List Pc:=(l.map bJ).filter fun p=>decide (p.1<p.2)
def aT (l:List Pc):List Pc:=merge (rH (raw l))
def aY (P:List Pc):List Pc:=P.map fun p=>(bW p.1,bW (p.2-1))
def eP:Int→List Pc→List Pc
 | from_,[]=>if from_<1112064 then [(from_,1112064)] else []
 | from_,p::P=>if from_<p.1 then (from_,p.1)::eP p.2 P else eP p.2 P
def cnt:List Pc→Int
 | []=>0
 | p::P=>p.2-p.1+cnt P
def nE (l:List Pc):List Pc:=aY (aT l)
def nt (l:List Pc):List Pc:=aY (eP 0 (aT l))
def has (l:List Pc) (r:Int):Bool:=fM r && l.any fun x=>decide (x.1≤r) && decide (r≤x.2)
def vJ (l:List Pc) (p:Int):Prop:=jU (l.map bJ) p
theorem JK (p q:Pc):∀l,q∈ins p l↔q=p∨q∈l
 | []=>by simp[ins]
 | r :: l => by
  unfold ins
  split
  · simp
  · simp only [List.mem_cons, JK p q l]
    constructor
    · rintro(h|h|h)<;>simp[h]
    · rintro(h|h|h)<;>simp[h]
theorem C9 (q:Pc):∀l,q∈rH l↔q∈l
 | []=>by simp[rH]
 | p::l=>by simp[rH,JK,C9 q l]
def Asc:List Pc→Prop
 | []=>True
 | [_]=>True
 | p::q::l=>p.1≤q.1∧Asc (q::l)
theorem Asc.tail {p:Pc} {l:List Pc} (h:Asc (p::l)):Asc l:=by
 cases l with
 | nil=>trivial
 | cons q l=>exact h.2
theorem JL (p:Pc):∀l,Asc l→Asc (ins p l)
 | [],_=>trivial
 | [q], _ => by
  unfold ins
  split
  · exact⟨by assumption,trivial⟩
  · exact⟨by omega,trivial⟩
 | q :: r :: l, h => by
  unfold ins
  split
  · exact⟨by assumption,h⟩
  · have ih := JL p (r :: l) h.2
    unfold ins at ih ⊢
    split
    · rename_i h1 h2;rw[if_pos h2] at ih;exact⟨by omega,ih⟩
    · rename_i h1 h2;rw[if_neg h2] at ih;exact⟨h.1,ih⟩
theorem JM:∀l,Asc (rH l)
 | []=>trivial
 | p::l=>JL p _ (JM l)
theorem JN {P Q:List Pc} (h:∀q,q∈P↔q∈Q) (p:Int):jU P p↔jU Q p:=by
 unfold jU;simp only[h]
theorem SQ (l:List Pc) (p:Int):jU (rH l) p↔jU l p:=JN (fun q=>C9 q l) p
theorem JO (l:List Pc) (p:Int):jU (raw l) p↔vJ l p:=by
 unfold raw vJ jU
 constructor
 · rintro⟨q,hq,h⟩;exact⟨q,(List.mem_filter.1 hq).1,h⟩
 · rintro⟨q,hq,h⟩;exact⟨q,List.mem_filter.2 ⟨hq,by simp;omega⟩,h⟩
theorem F9:∀(l:List Pc) (c:Pc) (b:Int),b<c.1→c.1<c.2→Asc (c::l)→(∀q∈l,q.1<q.2)→Nf b (oG c l)
 | [],c,b,h1,h2,_,_=>⟨h1,h2,trivial⟩
 | p :: l, c, b, h1, h2, h3, h4 => by
  unfold oG
  split
  · refine F9 l (c.1, max c.2 p.2) b h1 (by simp; omega) ?_ (fun q hq => h4 q (by simp [hq]))
    cases l with
    | nil=>trivial
    | cons q l=>exact⟨by have:=h3.1;have:=h3.2.1;simp;omega,h3.2.2⟩
  · exact⟨h1,h2,F9 l p c.2 (by omega) (h4 p (by simp)) h3.2 (fun q hq=>h4 q (by simp[hq]))⟩
theorem Ga:∀(l:List Pc) (c:Pc) (p:Int),c.1≤c.2→Asc (c::l)→(∀q∈l,q.1≤q.2)→(jU (oG c l) p↔jU (c::l) p)
 | [],c,p,_,_,_=>Iff.rfl
 | q :: l, c, p, h0, h1, h2 => by
  have hq:=h2 q (by simp)
  have hcq:=h1.1
  unfold oG
  split
  · rename_i hle
    rw[Ga l _ p (by simp;omega) (by cases l with|nil=>trivial|cons r l=>exact⟨by have:=h1.1;have:=h1.2.1;simp;omega,h1.2.2⟩) (fun r hr=>h2 r (by simp[hr]))]
    simp only[dF]
    have:(c.1≤p∧p<max c.2 q.2)↔((c.1≤p∧p<c.2)∨(q.1≤p∧p<q.2)):=by omega
    rw[this,or_assoc]
  · rw[dF,Ga l q p hq h1.2 (fun r hr=>h2 r (by simp[hr])),dF c]
theorem Gb:∀(l:List Pc) (c:Pc),c.2≤1112064→Bd l→Bd (oG c l)
 | [],c,h,_=>by simpa [oG,Bd] using h
 | q :: l, c, h, hb => by
  have hq:=hb q (by simp)
  unfold oG
  split
  · exact Gb l _ (by simp;omega) (fun r hr=>hb r (by simp[hr]))
  · intro r hr
    rcases List.mem_cons.1 hr with rfl|hr
    · exact h
    · exact Gb l q hq (fun r hr=>hb r (by simp[hr])) r hr
theorem JQ {l:List Pc} {q:Pc} (h:q∈raw l):0≤q.1∧q.1<q.2∧q.2≤1112064:=by
 obtain⟨h1,h2⟩:=List.mem_filter.1 h
 obtain⟨x,_,rfl⟩:=List.mem_map.1 h1
 have:=Bz x
 simp at h2;omega
theorem Am {l:List Pc} (h:Asc l) (h2:∀q∈l,0≤q.1∧q.1<q.2∧q.2≤1112064):Nf (-1) (merge l)∧Bd (merge l)∧∀p,jU (merge l) p↔jU l p:=by
 cases l with
 | nil=>exact⟨trivial,by simp[merge,Bd],fun _=>Iff.rfl⟩
 | cons c l =>
  have hc:=h2 c (by simp)
  exact⟨F9 l c (-1) (by omega) hc.2.1 h (fun q hq=>(h2 q (by simp[hq])).2.1),Gb l c hc.2.2 (fun q hq=>(h2 q (by simp[hq])).2.2),fun p=>Ga l c p (by omega) h (fun q hq=>by have:=(h2 q (by simp[hq])).2.1;omega)⟩
theorem zi (l:List Pc):Nf (-1) (aT l)∧Bd (aT l)∧∀p,jU (aT l) p↔vJ l p:=by
 obtain⟨h1,h2,h3⟩:=Am (JM (raw l)) (fun q hq=>JQ ((C9 q _).1 hq))
 exact⟨h1,h2,fun p=>by unfold aT;rw[h3,SQ,JO]⟩
theorem qN (l:List Pc):Nf (-1) (aT l):=(zi l).1
theorem vB (l:List Pc):Bd (aT l):=(zi l).2.1
theorem Mt (l:List Pc) (p:Int):jU (aT l) p↔vJ l p:=(zi l).2.2 p
theorem Nf.pos:∀ {b:Int} {P:List Pc},Nf b P→∀q∈P,b<q.1∧q.1<q.2
 | b,[],_,q,hq=>by simp at hq
 | b, r :: P, h, q, hq => by
  rcases List.mem_cons.1 hq with rfl|hq
  · exact⟨h.1,h.2.1⟩
  · have:=Nf.pos h.2.2 q hq;have:=h.1;have:=h.2.1;omega
theorem Gc {l P:List Pc} (h:Nf (-1) P) (h2:∀p,jU P p↔vJ l p):P=aT l:=h.uniq (qN l) fun p=>by rw[h2,Mt]
theorem Gd:∀(P:List Pc) (f b:Int),b<f→0≤f→Nf (f-1) P→Nf b (eP f P)
 | [], f, b, h1, _, _ => by
  unfold eP;split
  · exact⟨h1,by assumption,trivial⟩
  · trivial
 | p :: P, f, b, h1, h0, h2 => by
  have h3:=h2.2.1
  have h4:=h2.1
  unfold eP;split
  · exact⟨h1,by assumption,Gd P p.2 p.1 h3 (by omega) (h2.2.2.weaken (by omega))⟩
  · exact Gd P p.2 b (by omega) (by omega) (h2.2.2.weaken (by omega))
theorem Mv:∀(P:List Pc) (f:Int),Bd P→Nf (f-1) P→Bd (eP f P)
 | [], f, _, _ => by
  unfold eP;split<;>simp[Bd]
 | p :: P, f, h, h2 => by
  have hp:=h p (by simp)
  have ih:=Mv P p.2 (fun q hq=>h q (by simp[hq])) (h2.2.2.weaken (by omega))
  unfold eP;split
  · intro q hq
    rcases List.mem_cons.1 hq with rfl|hq
    · have:=h2.2.1;simp;omega
    · exact ih q hq
  · exact ih
theorem Mw:∀(P:List Pc) (f p:Int),Nf (f-1) P→Bd P→(jU (eP f P) p↔f≤p∧p<1112064∧¬jU P p)
 | [], f, p, _, _ => by
  unfold eP;split
  · simp[dF,vO]
  · simp[vO];omega
 | q :: P, f, p, h, hb => by
  have hq:=hb q (by simp)
  have ih:=Mw P q.2 p (h.2.2.weaken (by omega)) (fun r hr=>hb r (by simp[hr]))
  have h3:=h.2.1
  have h4:=h.1
  have hab:jU P p→q.2<p:=fun hp=>h.2.2.above hp
  unfold eP;split
  · rw [dF, ih, dF]
    by_cases hp:jU P p
    · have := hab hp; simp only [hp, not_true_eq_false, or_true, and_false, or_false]
      constructor
      · rintro⟨_,h⟩;omega
      · simp
    · simp only [hp, or_false, not_false_eq_true, and_true]
      constructor
      · rintro (h | h)
        · exact⟨by omega,by omega,by omega⟩
        · omega
      · rintro ⟨a, b, c⟩
        omega
  · rw [ih, dF]
    by_cases hp:jU P p
    · simp[hp]
    · simp only[hp,or_false,not_false_eq_true,and_true];omega
theorem vv (l:List Pc):Nf (-1) (eP 0 (aT l))∧Bd (eP 0 (aT l))∧∀p,jU (eP 0 (aT l)) p↔0≤p∧p<1112064∧¬vJ l p:=
 ⟨Gd _ 0 (-1) (by omega) (by omega) (qN l),Mv _ 0 (vB l) (qN l),fun p=>by rw[Mw _ 0 p (qN l) (vB l),Mt]⟩
def Norm (l:List Pc):Prop:=l=nE l
end Go.Proofs.YtfkmajjgkdjncaaGreatDoor.Ru

namespace Go.Proofs.YtfkmajjgkdjncaaGreatDoor.Ru
def card (f:Int→Bool):Nat→Int
 | 0=>0
 | n+1=>card f n+if f (n:Int)=true then 1 else 0
def tN (x:Pc):Bool:=decide (x.1≤x.2) && (fM x.1 && fM x.2)
def qy (l:List Pc):Bool:=(List.range l.length).all fun i=>tN (l.getD i (0,0)) && (decide (i=0) || decide (aA (l.getD (i-1) (0,0)).2+1<aA (l.getD i (0,0)).1))
theorem wK (l:List Pc):qy l=true↔∀i,i<l.length→tN (l.getD i (0,0))=true∧(0<i→aA (l.getD (i-1) (0,0)).2+1<aA (l.getD i (0,0)).1):=by
 unfold qy
 simp only[List.all_eq_true,List.mem_range,Bool.and_eq_true,Bool.or_eq_true,decide_eq_true_eq]
 constructor
 · intro h i hi; refine ⟨(h i hi).1, fun h0 => ?_⟩
   rcases(h i hi).2 with h2|h2
   · omega
   · exact h2
 · intro h i hi; refine ⟨(h i hi).1, ?_⟩
   by_cases h0:i=0
   · exact .inl h0
   · exact .inr ((h i hi).2 (by omega))
def Mr:Int→List Pc→Prop
 | _,[]=>True
 | b,x::l=>tN x=true∧b<aA x.1∧Mr (aA x.2+1) l
theorem QV:∀(l:List Pc) (b:Int),(∀i,i<l.length→tN (l.getD i (0,0))=true∧(0<i→aA (l.getD (i-1) (0,0)).2+1<aA (l.getD i (0,0)).1))→(∀x,l.head? = some x→b<aA x.1)→Mr b l
 | [],_,_,_=>trivial
 | x :: l, b, h, hb => by
  refine⟨(h 0 (by simp)).1,hb x rfl,QV l _ (fun i hi=>?_) (fun y hy=>?_)⟩
  · have := h (i + 1) (by simp; omega)
    refine⟨by simpa using this.1,fun h0=>?_⟩
    have h2:=this.2 (by omega)
    obtain⟨j,rfl⟩:∃j,i=j+1:=⟨i-1,by omega⟩
    simpa using h2
  · cases l with
    | nil=>simp at hy
    | cons z l =>
     simp at hy;subst hy
     have:=(h 1 (by simp)).2 (by omega)
     simpa using this
theorem QX:∀(l:List Pc) (b:Int),Mr b l→∀i,i<l.length→tN (l.getD i (0,0))=true∧(0<i→aA (l.getD (i-1) (0,0)).2+1<aA (l.getD i (0,0)).1)
 | [],_,_,i,hi=>by simp at hi
 | x::l,b,h,0,_=>⟨by simpa using h.1,fun h=>absurd h (by omega)⟩
 | x :: l, b, h, i + 1, hi => by
  have ih:=QX l _ h.2.2 i (by simpa using hi)
  refine⟨by simpa using ih.1,fun _=>?_⟩
  cases i with
  | zero =>
   cases l with
   | nil=>simp at hi
   | cons y l=>simpa using h.2.2.2.1
  | succ j=>simpa using ih.2 (by omega)
theorem JR (x:Pc):tN x=true↔x.1≤x.2∧fM x.1=true∧fM x.2=true:=by simp[tN]
theorem Ak {a b:Int} (h:a≤b):aA a≤aA b:=by unfold aA;repeat' split<;>omega
theorem QY:∀(l:List Pc) (b:Int),Mr b l→Nf b (l.map bJ)∧Bd (l.map bJ)∧aY (l.map bJ)=l
 | [],_,_=>⟨trivial,by simp[Bd],rfl⟩
 | x :: l, b, h => by
  obtain⟨h1,h2,h3⟩:=(JR x).1 h.1
  obtain⟨i1,i2,i3⟩:=QY l _ h.2.2
  have e:bJ x=(aA x.1,aA x.2+1):=by unfold bJ;rw[if_pos h3]
  have hp:=Al h3
  have hm:=Ak h1
  simp only[List.map_cons,e]
  refine⟨⟨h.2.1,by omega,i1⟩,?_,?_⟩
  · intro q hq
    rcases List.mem_cons.1 hq with rfl|hq
    · simp;omega
    · exact i2 q hq
  · have UC : aY ((aA x.1, aA x.2 + 1) :: l.map bJ) = (bW (aA x.1), bW (aA x.2 + 1 - 1)) :: aY (l.map bJ) := rfl
    rw[UC,i3,zh h2,show aA x.2+1-1=aA x.2 by omega,zh h3]
theorem QZ:∀(P:List Pc) (b:Int),-1≤b→Nf b P→Bd P→Mr b (aY P)
 | [],_,_,_,_=>trivial
 | q :: P, b, hb, h, h2 => by
  have hq:=h2 q (by simp)
  have h1:=h.1
  have h3:=h.2.1
  have ih:=QZ P q.2 (by omega) h.2.2 (fun r hr=>h2 r (by simp[hr]))
  refine⟨(JR _).2 ⟨tL.1 (by omega),F8 (by omega) (by omega),F8 (by omega) (by omega)⟩,?_,?_⟩
  · show b<aA (bW q.1);rw[JJ (by omega) (by omega)];exact h1
  · show Mr (aA (bW (q.2 - 1)) + 1) (aY P)
    rw[JJ (by omega) (by omega),show q.2-1+1=q.2 by omega];exact ih
theorem SS (l:List Pc):qy l=true↔l=nE l:=by
 rw[wK]
 constructor
 · intro h
   have hm:=QV l (-1) h (fun x _=>by have:=mH x.1;omega)
   obtain⟨h1,h2,h3⟩:=QY l _ hm
   have:l.map bJ=aT l:=Gc h1 fun p=>Iff.rfl
   unfold nE;rw[←this,h3]
 · intro h
   rw[h]
   exact QX _ (-1) (QZ _ _ (by omega) (qN l) (vB l))
end Go.Proofs.YtfkmajjgkdjncaaGreatDoor.Ru

namespace Go.Proofs.YtfkmajjgkdjncaaGreatDoor.Ru
def Gf:Int→List Int→Prop
 | _,[]=>True
 | b,x::l=>b<x∧Gf x l
theorem Gf.above:∀ {b:Int} {l:List Int},Gf b l→∀x∈l,b<x
 | b,[],_,x,hx=>by simp at hx
 | b, y :: l, h, x, hx => by
  rcases List.mem_cons.1 hx with rfl|hx
  · exact h.1
  · have:=Gf.above h.2 x hx;have:=h.1;omega
def ends:List Pc→List Int
 | []=>[]
 | q::P=>q.1::q.2::ends P
theorem take_one {α} (l:List α) (d:α) (k:Nat) (h:k<l.length):l.take (k+1)=l.take k++[l.getD k d]:=by
 rw[List.take_succ_eq_append_getElem h]
 simp[List.getD,List.getElem?_eq_getElem h]
end Go.Proofs.YtfkmajjgkdjncaaGreatDoor.Ru

namespace Go.Proofs.YtfkmajjgkdjncaaGreatDoor.Ru
theorem Ao:∀(l:List Pc) (c p:Pc),∃t q,oG c l=t++[q]∧oG c (l++[p])=if p.1≤q.2 then t++[(q.1,max q.2 p.2)] else t++[q,p]
 | [],c,p=>⟨[],c,rfl,by simp[oG]⟩
 | r :: l, c, p => by
  by_cases h:r.1≤c.2
  · obtain ⟨t, q, h1, h2⟩ := Ao l (c.1, max c.2 r.2) p
    exact⟨t,q,by rw[oG,if_pos h,h1],by rw[List.cons_append,oG,if_pos h,h2]⟩
  · obtain ⟨t, q, h1, h2⟩ := Ao l r p
    refine⟨c::t,q,by rw[oG,if_neg h,h1];rfl,?_⟩
    rw[List.cons_append,oG,if_neg h,h2]
    split<;>rfl
theorem Bw (l:List Pc) (p:Pc) (hl:l≠[]):∃t q,merge l=t++[q]∧merge (l++[p])=if p.1≤q.2 then t++[(q.1,max q.2 p.2)] else t++[q,p]:=by
 cases l with
 | nil=>exact absurd rfl hl
 | cons c l=>exact Ao l c p
theorem Da:∀(l:List Pc) (c:Pc),(oG c l).length≤l.length+1
 | [],c=>by simp[oG]
 | p :: l, c => by
  unfold oG
  split
  · have:=Da l (c.1,max c.2 p.2);simp;omega
  · have:=Da l p;simp;omega
theorem qP (l:List Pc):(merge l).length≤l.length:=by
 cases l with
 | nil=>simp[merge]
 | cons c l=>have:=Da l c;simpa [merge] using this
def Sorted (l:List Pc):Prop:=∀i j,i<j→j<l.length→(l.getD i (0,0)).1≤(l.getD j (0,0)).1
theorem Sorted.tail {p:Pc} {l:List Pc} (h:Sorted (p::l)):Sorted l:=fun i j hij hj=>by simpa using h (i+1) (j+1) (by omega) (by simpa using hj)
theorem Sorted.nu:∀ {l:List Pc},Sorted l→Asc l
 | [],_=>trivial
 | [_],_=>trivial
 | p::q::l,h=>⟨by simpa using h 0 1 (by omega) (by simp),h.tail.nu⟩
theorem DV (l d:List Pc) (hs:Sorted d) (hm:∀q,q∈d↔q∈raw l):merge d=aT l:=by
 obtain⟨h1,h2,h3⟩:=Am hs.nu (fun q hq=>JQ ((hm q).1 hq))
 exact Gc h1 fun p=>by rw[h3,JN hm,JO]
def opn (f:Int→Bool) (c:List Int):Nat→Bool
 | 0=>false
 | i+1=>f (c.getD i 0)
def ext (Q : List Pc) (y : Int) : List Pc := match Q.getLast? with
 | none=>Q
 | some q=>Q.dropLast++[(q.1,y)]
theorem Gf.get:∀ {b:Int} {l:List Int},Gf b l→∀i j,i<j→j<l.length→l.getD i 0<l.getD j 0
 | b,[],_,i,j,_,hj=>by simp at hj
 | b, x :: l, h, 0, j + 1, _, hj => by
  have hj':j<l.length:=by simpa using hj
  have:=h.2.above (l.getD j 0) (by simp[List.getD,List.getElem?_eq_getElem hj'])
  simpa using this
 | b,x::l,h,i+1,j+1,hij,hj=>by simpa using Gf.get h.2 i j (by omega) (by simpa using hj)
end Go.Proofs.YtfkmajjgkdjncaaGreatDoor.Ru
