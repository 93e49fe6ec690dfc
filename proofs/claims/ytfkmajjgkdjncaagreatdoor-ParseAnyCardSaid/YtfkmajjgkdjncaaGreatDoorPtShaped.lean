/- Merged. -/
import Derived.Test.YtfkmajjgkdjncaaGreatDoorReMay2
set_option linter.unusedVariables false
set_option linter.unusedSimpArgs false
set_option maxHeartbeats 8000000
set_option maxRecDepth 100000
namespace Go.Proofs.YtfkmajjgkdjncaaGreatDoor
open Go.RowKit Ru
namespace RE
mutual
def same:RE→RE→Bool
 | .mk k s l,f=>decide (k=f.kind) && (decide (s=f.set) && (decide (l.length=f.parts.length) && BO l f.parts))
def BO:List RE→List RE→Bool
 | [],_=>true
 | a :: l, m => match m with
  | []=>true
  | b::m=>same a b && BO l m
end
end RE
inductive PT where
 | mk (k:Int) (ns es:List ByteArray) (l:List PT)
namespace PT
def kind:PT→Int|mk k _ _ _=>k
def names:PT→List ByteArray|mk _ n _ _=>n
def ends:PT→List ByteArray|mk _ _ e _=>e
def parts:PT→List PT|mk _ _ _ l=>l
mutual
def size:PT→Nat
 | mk _ _ _ l=>sizes l+1
def sizes:List PT→Nat
 | []=>0
 | e::l=>size e+sizes l
end
theorem size_mk (k:Int) (n e:List ByteArray) (l:List PT):(mk k n e l).size=sizes l+1:=by rw[size]
theorem kT:sizes []=0:=by rw[sizes]
theorem eX (e:PT) (l:List PT):sizes (e::l)=e.size+sizes l:=by rw[sizes]
theorem size_pos (e:PT):1≤e.size:=by cases e;rw[size_mk];omega
theorem Ad:∀(l:List PT) (i:Nat) (e:PT),l[i]? = some e→e.size≤sizes l:=by
 intro l
 induction l with
 | nil=>intro i e h;simp at h
 | cons a l ih =>
  intro i e h
  rw[eX]
  cases i with
  | zero=>simp at h;subst h;omega
  | succ i=>have:=ih i e (by simpa using h);omega
theorem jT {e p:PT} {i:Nat} (h:e.parts[i]? = some p):p.size<e.size:=by
 cases e with
 | mk k n s l=>rw[size_mk];have:=Ad l i p h;omega
inductive Fit:PT→Prop
 | mk (k:Int) (n e:List ByteArray) (l:List PT) (hn:n.length≤1000) (he:e.length≤1000) (hl:l.length≤1000) (h:∀(i:Nat) (p:PT),l[i]? = some p→Fit p):Fit (.mk k n e l)
theorem Fit.lens {e:PT} (h:Fit e):e.names.length≤1000∧e.ends.length≤1000∧e.parts.length≤1000:=by cases h;exact⟨by assumption,by assumption,by assumption⟩
theorem Fit.part {e p:PT} {i:Nat} (h:Fit e) (hp:e.parts[i]? = some p):Fit p:=by cases h with|mk k n s l hn he hl h=>exact h i p hp
end PT
def strs (l:List ByteArray):List Value:=l.map Value.string
theorem Gw {l:List ByteArray} {i:Nat} {s:ByteArray} (h:l[i]? = some s):(strs l)[i]? = some (.string s):=by simp only[strs,List.getElem?_map,h,Option.map_some]
theorem Py (l:List ByteArray):(strs l).length=l.length:=by simp[strs]
def iC (l:List (Int×Value×Value×Value)):List Value:=l.flatMap fun p=>[.int .i64 p.1,p.2.1,p.2.2.1,p.2.2.2]
theorem Nk (p:Int×Value×Value×Value) (l:List (Int×Value×Value×Value)):iC (p::l)=[.int .i64 p.1,p.2.1,p.2.2.1,p.2.2.2]++iC l:=by simp[iC]
theorem PZ:∀(l:List (Int×Value×Value×Value)) (k:Nat) (p:Int×Value×Value×Value),l[k]? = some p→(iC l)[k*4]? = some (.int .i64 p.1)∧(iC l)[k*4+1]? = some p.2.1∧(iC l)[k*4+2]? = some p.2.2.1∧(iC l)[k*4+3]? = some p.2.2.2:=by
 intro l
 induction l with
 | nil=>intro k p h;simp at h
 | cons q l ih =>
  intro k p h
  rw[Nk]
  cases k with
  | zero=>simp at h;subst h;simp
  | succ k =>
   have:=ih k p (by simpa using h)
   refine⟨?_,?_,?_,?_⟩<;>rw[List.getElem?_append_right (by simp;omega)]
   · rw[←this.1];congr 1;simp;omega
   · rw[←this.2.1];congr 1;simp;omega
   · rw[←this.2.2.1];congr 1;simp;omega
   · rw[←this.2.2.2];congr 1;simp;omega
inductive bU (w:World):PT→Value→Value→Value→Prop
 | mk (k : Int) (n e : List ByteArray) (l : List PT) (nv ev lv : Value) (ps : List (Int × Value × Value × Value)) (hns : Row w nv n.length (strs n)) (hes : Row w ev e.length (strs e)) (hl : Row w lv l.length (iC ps)) (hn : ps.length = l.length)
  (hk:∀(i:Nat) (c:PT) (p:Int×Value×Value×Value),l[i]? = some c→ps[i]? = some p→c.kind=p.1) (ih:∀(i:Nat) (c:PT) (p:Int×Value×Value×Value),l[i]? = some c→ps[i]? = some p→bU w c p.2.1 p.2.2.1 p.2.2.2):bU w (.mk k n e l) nv ev lv
theorem bU.moved {w w':World} {e:PT} {nv ev lv:Value} (h:bU w e nv ev lv) (hb:Below w.heap.size w w'):bU w' e nv ev lv:=by
 induction h with
 | mk k n s l nv ev lv ps hns hes hl hn hk ih h=>exact .mk k n s l nv ev lv ps (hns.below hb) (hes.below hb) (hl.below hb) hn hk (fun i e p he hp=>h i e p he hp)
theorem bU.names {w:World} {e:PT} {nv ev lv:Value} (h:bU w e nv ev lv):Row w nv e.names.length (strs e.names):=by cases h;assumption
theorem bU.ends {w:World} {e:PT} {nv ev lv:Value} (h:bU w e nv ev lv):Row w ev e.ends.length (strs e.ends):=by cases h;assumption
theorem bU.form {w:World} {e:PT} {nv ev lv:Value} (h:bU w e nv ev lv):(∃o c,nv=.slice o e.names.length c)∧(∃o c,ev=.slice o e.ends.length c)∧(∃o c,lv=.slice o e.parts.length c):=by
 cases h with
 | mk k n s l nv ev lv ps hns hes hl hn hk ih =>
  obtain⟨o,c,rfl,_⟩:=hns
  obtain⟨o',c',rfl,_⟩:=hes
  obtain⟨o'',c'',rfl,_⟩:=hl
  exact⟨⟨o,c,rfl⟩,⟨o',c',rfl⟩,⟨o'',c'',rfl⟩⟩
def MZ:Value→Option Addr|.slice o _ _=>o|_=>none
def M0:Value→Nat|.slice _ n _=>n|_=>0
def M4:Value→Nat|.slice _ _ c=>c|_=>0
theorem bU.Vj {w:World} {e:PT} {nv ev lv:Value} (h:bU w e nv ev lv):∃(o:Option Addr) (cap:Nat) (k:Nat→Int) (no:Nat→Option Addr) (nn nc:Nat→Nat) (eo:Nat→Option Addr) (en ec:Nat→Nat) (lo:Nat→Option Addr) (ln lc:Nat→Nat),lv=.slice o e.parts.length cap ∧
 ∀(i:Nat) (p:PT),e.parts[i]? = some p→k i=p.kind∧bU w p (.slice (no i) (nn i) (nc i)) (.slice (eo i) (en i) (ec i)) (.slice (lo i) (ln i) (lc i))∧∃b off,o=some ⟨b,off,none⟩∧b<w.heap.size ∧
  w.cell? ⟨b,off+i*4,none⟩=some (.int .i64 (k i))∧w.cell? ⟨b,off+i*4+1,none⟩=some (.slice (no i) (nn i) (nc i))∧w.cell? ⟨b,off+i*4+2,none⟩=some (.slice (eo i) (en i) (ec i))∧w.cell? ⟨b,off+i*4+3,none⟩=some (.slice (lo i) (ln i) (lc i)):=by
 cases h with
 | mk k n s l nv ev lv ps hns hes hl hn hk ih =>
  have hl2:=hl
  obtain⟨o,cap,rfl,_⟩:=hl2
  refine ⟨o, cap, fun i => (ps.getD i (0, .nilIface, .nilIface, .nilIface)).1, fun i => MZ (ps.getD i (0, .nilIface, .nilIface, .nilIface)).2.1, fun i => M0 (ps.getD i (0, .nilIface, .nilIface, .nilIface)).2.1, fun i => M4 (ps.getD i (0, .nilIface, .nilIface, .nilIface)).2.1,
   fun i=>MZ (ps.getD i (0,.nilIface,.nilIface,.nilIface)).2.2.1,fun i=>M0 (ps.getD i (0,.nilIface,.nilIface,.nilIface)).2.2.1,fun i=>M4 (ps.getD i (0,.nilIface,.nilIface,.nilIface)).2.2.1,
   fun i=>MZ (ps.getD i (0,.nilIface,.nilIface,.nilIface)).2.2.2,fun i=>M0 (ps.getD i (0,.nilIface,.nilIface,.nilIface)).2.2.2,fun i=>M4 (ps.getD i (0,.nilIface,.nilIface,.nilIface)).2.2.2,rfl,fun i p hp=>?_⟩
  have hi:i<l.length:=(List.getElem?_eq_some_iff.1 hp).1
  obtain⟨b,off,cap',e,hb,hc⟩:=hl.cells' (by omega)
  simp only[Value.slice.injEq,true_and] at e
  obtain⟨rfl,rfl⟩:=e
  obtain⟨q,hq⟩:∃q,ps[i]? = some q:=⟨ps[i],List.getElem?_eq_getElem (by omega)⟩
  have hd:ps.getD i (0,.nilIface,.nilIface,.nilIface)=q:=by rw[List.getD,hq];rfl
  have g:=PZ ps i q hq
  have hpi:=ih i p q hp hq
  obtain⟨⟨x1,y1,e1⟩,⟨x2,y2,e2⟩,⟨x3,y3,e3⟩⟩:=hpi.form
  have g0:=hc _ _ g.1
  have g1:=hc _ _ g.2.1
  have g2:=hc _ _ g.2.2.1
  have g3:=hc _ _ g.2.2.2
  simp only[hd]
  rw[e1,e2,e3] at hpi
  rw[e1] at g1
  rw[e2] at g2
  rw[e3] at g3
  rw[e1,e2,e3]
  exact⟨(hk i p q hp hq).symm,hpi,b,off,rfl,hb,g0,by rw[Nat.add_assoc];exact g1,by rw[Nat.add_assoc];exact g2,by rw[Nat.add_assoc];exact g3⟩
theorem Gu {x y:ByteArray} (h:x≠y):(x.toList == y.toList)=false:=by
 rw[beq_eq_false_iff_ne]
 intro e
 rw[ByteArray.toList_eq,ByteArray.toList_eq] at e
 exact h (ByteArray.ext (Array.toList_inj.1 e))
theorem GQ (n:Nat) (o:Option Addr) (cap:Nat) (cap0 qB:Value) (c0 c1 c2 c3:Nat→Value) (St:Nat→World→Prop) (Fin:Nat→World→Prop) (w:World) (hn:n≤1000000)
 (hel:∀i,i<n→∃b off,o=some ⟨b,off,none⟩∧∀w',St i w'→w'.cell? ⟨b,off+i*4,none⟩=some (c0 i)∧w'.cell? ⟨b,off+i*4+1,none⟩=some (c1 i)∧w'.cell? ⟨b,off+i*4+2,none⟩=some (c2 i)∧w'.cell? ⟨b,off+i*4+3,none⟩=some (c3 i))
 (hf:∀i w',i<n→St i w'→Calls Tryz.prog 134 #[.agg #[c0 i,c1 i,c2 i,c3 i],cap0,qB] w' fun e w''=>(e=.returned (.bool true)∧Fin i w'')∨(e=.returned (.bool false)∧St (i+1) w''))
 (h0:St 0 w) :
 Calls Tryz.prog 150 #[.slice o n cap,.func (Fn.func 134) #[] #[cap0,qB]] w fun e w'=>(∃i:Nat,i<n∧e=.returned (.int .i64 i)∧Fin i w')∨(e=.returned (.int .i64 (-1))∧St n w'):=by
 have mF:=Lib.hid hel
 have HF:=Lib.hid hf
 clear hel hf
 go_enter Tryz.func150,Tryz.ntmps150
 go_wp2_with fail
 go_loopg [8] n (fun g i wx=>∃k:Nat,k+g=n∧i=.int .i64 k∧St k wx)
 case atStart=>exact⟨0,by omega,rfl,h0⟩
 case round=>
  obtain⟨k,hkg,rfl,hSt⟩:=hrel
  obtain⟨wo,rfl⟩:∃wo:World,wo=wr:=⟨_,rfl⟩
  cases gk with
  | zero =>
   obtain rfl:k=n:=by omega
   have hd:decide ((k:Int)<(k:Int))=false:=by simp
   have HS:=Lib.hid hSt
   clear hSt
   go_wp2
   go_ret
   exact .inr ⟨rfl,HS.out⟩
  | succ g =>
   have hk:k<n:=by omega
   have hd:decide ((k:Int)<(n:Int))=true:=by simp;omega
   have hk1:(0:Int)≤(k:Int):=by omega
   have hk2:(k:Int)<(n:Int):=by omega
   have jC:(k:Int)≤1000000:=by omega
   obtain⟨b,off,rfl,hcell⟩:=mF.out k hk
   obtain⟨k0,k1,k2,k3⟩:=hcell wo hSt
   have hc:=HF.out k wo hk hSt
   obtain⟨d0,hd0⟩:∃d,d=c0 k:=⟨_,rfl⟩
   rw[←hd0] at k0 hc
   clear hd0
   obtain⟨d1,hd1⟩:∃d,d=c1 k:=⟨_,rfl⟩
   rw[←hd1] at k1 hc
   clear hd1
   obtain⟨d2,hd2⟩:∃d,d=c2 k:=⟨_,rfl⟩
   rw[←hd2] at k2 hc
   clear hd2
   obtain⟨d3,hd3⟩:∃d,d=c3 k:=⟨_,rfl⟩
   rw[←hd3] at k3 hc
   clear hd3
   have HC:=Lib.hid hc
   clear hcell hSt hc
   go_wp2_with fail
   refine HC.out.mono ?_
   rintro e w2 (⟨rfl,hfin⟩|⟨rfl,hst⟩)
   · have HX := Lib.hid hfin
     clear hfin
     go_wp2
     go_ret
     exact .inl ⟨k,hk,rfl,HX.out⟩
   · have HX := Lib.hid hst
     clear hst
     go_wp2
     go_roundg g
     case measure=>omega
     case rel=>exact⟨k+1,by omega,by go_num,HX.out⟩
theorem BQ (n:Nat) (o:Option Addr) (cap:Nat) (cap0 qB:Value) (c0 c1 c2 c3:Nat→Value) (St:Nat→World→Prop) (Fin:Nat→World→Prop) (w:World) (hn:n≤1000000)
 (hel:∀i,i<n→∃b off,o=some ⟨b,off,none⟩∧∀w',St i w'→w'.cell? ⟨b,off+i*4,none⟩=some (c0 i)∧w'.cell? ⟨b,off+i*4+1,none⟩=some (c1 i)∧w'.cell? ⟨b,off+i*4+2,none⟩=some (c2 i)∧w'.cell? ⟨b,off+i*4+3,none⟩=some (c3 i))
 (hf:∀i w',i<n→St i w'→Calls Tryz.prog 134 #[.agg #[c0 i,c1 i,c2 i,c3 i],cap0,qB] w' fun e w''=>(e=.returned (.bool true)∧Fin i w'')∨(e=.returned (.bool false)∧St (i+1) w''))
 (h0:St 0 w) :
 Calls Tryz.prog 133 #[.slice o n cap,.func (Fn.func 134) #[] #[cap0,qB]] w fun e w'=>(∃i:Nat,i<n∧e=.returned (.bool true)∧Fin i w')∨(e=.returned (.bool false)∧St n w'):=by
 have hc:=GQ n o cap cap0 qB c0 c1 c2 c3 St Fin w hn hel hf h0
 have HC:=Lib.hid hc
 clear hc hf hel
 go_enter Tryz.func133,Tryz.ntmps133
 go_wp2_with fail
 refine HC.out.mono ?_
 rintro e w2 (⟨i,hi,rfl,hfin⟩|⟨rfl,hst⟩)
 · have HX := Lib.hid hfin
   have hi0:decide ((0:Int)≤(i:Int))=true:=by simp
   have hi9:(i:Int)≤1000000:=by omega
   clear hfin
   go_wp2
   go_ret
   exact .inl ⟨i,hi,rfl,HX.out⟩
 · have HX := Lib.hid hst
   clear hst
   go_wp2
   go_ret
   exact .inr ⟨rfl,HX.out⟩
theorem bU.all {w:World} {e:PT} {nv ev lv:Value} (h:bU w e nv ev lv):∃(o:Option Addr) (cap:Nat) (c1 c2 c3:Nat→Value),lv=.slice o e.parts.length cap ∧
 ∀(i:Nat) (p:PT),e.parts[i]? = some p→bU w p (c1 i) (c2 i) (c3 i)∧∃b off,o=some ⟨b,off,none⟩∧b<w.heap.size∧w.cell? ⟨b,off+i*4,none⟩=some (.int .i64 p.kind)∧w.cell? ⟨b,off+i*4+1,none⟩=some (c1 i)∧w.cell? ⟨b,off+i*4+2,none⟩=some (c2 i)∧w.cell? ⟨b,off+i*4+3,none⟩=some (c3 i):=by
 obtain⟨o,cap,k,no,nn,nc,eo,en,ec,lo,ln,lc,rfl,hall⟩:=h.Vj
 refine⟨o,cap,fun i=>.slice (no i) (nn i) (nc i),fun i=>.slice (eo i) (en i) (ec i),fun i=>.slice (lo i) (ln i) (lc i),rfl,fun i p hp=>?_⟩
 obtain⟨h1,h2,b,off,ho,hb,k0,k1,k2,k3⟩:=hall i p hp
 rw[h1] at k0
 exact⟨h2,b,off,ho,hb,k0,k1,k2,k3⟩
namespace PT
mutual
def vis:PT→Nat→Nat→Bool×Nat
 | .mk k ns es l,n,deep=>if 60<n+1∨12<deep then (false,n+1) else eZ l (n+1) (deep+1)
def eZ:List PT→Nat→Nat→Bool×Nat
 | [],n,_=>(true,n)
 | e::l,n,deep=>if (vis e n deep).1=true then eZ l (vis e n deep).2 deep else (false,(vis e n deep).2)
end
theorem vR (e:PT) (n deep:Nat):vis e n deep=if 60<n+1∨12<deep then (false,n+1) else eZ e.parts (n+1) (deep+1):=by cases e;rw[vis];rfl
theorem tV (n deep:Nat):eZ [] n deep=(true,n):=by rw[eZ]
theorem oH (e:PT) (l:List PT) (n deep:Nat):eZ (e::l) n deep=if (vis e n deep).1=true then eZ l (vis e n deep).2 deep else (false,(vis e n deep).2):=by rw[eZ]
def EH (e:PT):Bool:=(vis e 0 1).1
end PT
theorem PT.Dl:∀(N:Nat) (e:PT),e.size≤N→∀n d,(e.vis n d).1=true→(e.vis n d).2≤60:=by
 intro N
 induction N with
 | zero=>intro e h;have:=e.size_pos;omega
 | succ N ih =>
  intro e hs n d h
  rw[PT.vR] at h ⊢
  split at h
  · cases h
  · rename_i hc
    rw[if_neg hc]
    have hn:n+1≤60:=by omega
    have hp:∀(i:Nat) (p:PT),e.parts[i]? = some p→p.size≤N:=fun i p hp=>by have:=PT.jT hp;omega
    have:∀(l:List PT) (m:Nat),(∀p∈l,p.size≤N)→m≤60→(PT.eZ l m (d+1)).1=true→(PT.eZ l m (d+1)).2≤60:=by
     intro l
     induction l with
     | nil=>intro m _ hm _;rw[PT.tV];exact hm
     | cons a l ihl =>
      intro m hl hm h
      rw[PT.oH] at h ⊢
      split at h
      · rename_i ha
        rw[if_pos ha]
        exact ihl _ (fun p hp=>hl p (by simp[hp])) (ih a (hl a (by simp)) m (d+1) ha) h
      · cases h
    exact this e.parts (n+1) (fun p hpm=>by obtain⟨i,hi,rfl⟩:=List.getElem_of_mem hpm;exact hp i _ (List.getElem?_eq_getElem hi)) hn h
abbrev GR (qn qv:Nat):Value:=.func (Fn.func 132) #[] #[.pointer (some ⟨qn,0,none⟩),.pointer (some ⟨qv,0,none⟩)]
structure mO (w0 w:World) (qn qv n:Nat):Prop where
 aV:Below w0.heap.size w0 w
 cn:w.heap[qn]? = some (.cells #[.int .i64 n] 3 (0,0))
 cv:w.heap[qv]? = some (.cells #[GR qn qv] 177 (0,0))
 ln:w0.heap.size≤qn
 lv:w0.heap.size≤qv
 ne:qn≠qv
theorem mO.go {w0 w w':World} {qn qv n m:Nat} (h:mO w0 w qn qv n) (hc:Ch w w' qn) (hn:w'.heap[qn]? = some (.cells #[.int .i64 m] 3 (0,0))):mO w0 w' qn qv m:=
 ⟨hc.after h.aV h.ln,hn,hc.get h.cv (fun e=>h.ne e.symm),h.ln,h.lv,h.ne⟩
theorem mO.moved {w0 w w':World} {qn qv n:Nat} (h:mO w0 w qn qv n) (hb:Below w.heap.size w w'):mO w0 w' qn qv n:=h.go (Ch.of hb) (aB hb h.cn)
def vT (w0:World) (e:PT) (qn qv n deep:Nat) (w:World) (x:Ending) (w':World):Prop:=
 x=.returned (.bool (e.vis n deep).1)∧mO w0 w' qn qv (e.vis n deep).2∧Ch w w' qn
def Wl (w0:World) (N qn qv:Nat):Prop:=∀(e:PT) (nv ev lv:Value) (n deep:Nat) (w:World),e.size≤N→e.Fit→bU w0 e nv ev lv→mO w0 w qn qv n→n≤1000→deep≤1000 →
 Calls Tryz.prog 132 #[.agg #[.int .i64 e.kind,nv,ev,lv],.int .i64 deep,.pointer (some ⟨qn,0,none⟩),.pointer (some ⟨qv,0,none⟩)] w (vT w0 e qn qv n deep w)
theorem Nl (w0:World) (N qn qv qd:Nat) (ih:Wl w0 N qn qv) (e:PT) (nv ev lv:Value) (n deep:Nat) (w:World) (hs:e.size≤N) (hf:e.Fit) (hr:bU w0 e nv ev lv) (hv:mO w0 w qn qv n) (hn:n≤1000) (hd:deep≤999)
 (hq:w.heap[qd]? = some (.cells #[.int .i64 deep] 3 (0,0))) :
 Calls Tryz.prog 134 #[.agg #[.int .i64 e.kind,nv,ev,lv],.pointer (some ⟨qv,0,none⟩),.pointer (some ⟨qd,0,none⟩)] w fun x w'=>
  x=.returned (.bool (!(e.vis n (deep+1)).1))∧mO w0 w' qn qv (e.vis n (deep+1)).2∧Ch w w' qn:=by
 obtain⟨⟨o1,q1,rfl⟩,⟨o3,q3,rfl⟩,⟨o2,q2,rfl⟩⟩:=hr.form
 have hc:=fun w' (hv':mO w0 w' qn qv n)=>ih e _ _ _ n (deep+1) w' hs hf hr hv' hn (by omega)
 obtain⟨rb,hrb⟩:∃rb,rb=(e.vis n (deep+1)).1:=⟨_,rfl⟩
 unfold vT at hc
 rw[←hrb] at hc ⊢
 have hw1:(deep:Int)+1=((deep+1:Nat):Int):=by omega
 have hdz:(deep:Int)≤999:=by omega
 obtain⟨c0,f0⟩:=aj hv.cv
 unfold GR at c0
 have hlv:=dK hv.cv
 obtain⟨c1,f1⟩:=aj hq
 have hld:=dK hq
 have HC:=Lib.hid hc
 have HV:=Lib.hid hv
 have HW:=Lib.hid hw1
 clear hc hv hq hr ih hrb hw1
 go_enter Tryz.func134,Tryz.ntmps134
 go_wp2_with fail
 rw[show(Value.int .i64 ((deep:Int)+1))=.int .i64 ((deep+1:Nat):Int) by rw[HW.out]]
 refine(HC.out _ (HV.out.moved (ah (Below.refl _ _) _))).mono ?_
 rintro x w2 ⟨rfl,hv2,hc2⟩
 have HX:=Lib.hid (And.intro hv2 ((Ch.new w _ qn).trans hc2))
 clear hv2 hc2
 go_wp2
 go_ret
 exact⟨rfl,HX.out.1,HX.out.2⟩
theorem Nn (w0:World) (qn qv:Nat):∀N,Wl w0 N qn qv:=by
 intro N
 induction N with
 | zero=>intro e nv ev lv n deep w hs;have:=e.size_pos;omega
 | succ N ih =>
  intro e nv ev lv n deep w hs hf hr hv hn hd
  obtain⟨⟨o1,q1,rfl⟩,⟨o3,q3,rfl⟩,-⟩:=hr.form
  obtain⟨o2,q2,c1,c3,c2,rfl,hall⟩:=hr.all
  have hm1:=hf.lens
  have tX:=e.vR n deep
  have qR:=dK hv.cn
  have OJ:=dK hv.cv
  obtain⟨cn0,fn0⟩:=aj hv.cn
  obtain⟨nL,hW0⟩:∃nL,nL=w.setCell ⟨qn,0,none⟩ (.int .i64 ((n+1:Nat):Int)):=⟨_,rfl⟩
  have hsz0:nL.heap.size=w.heap.size:=by rw[hW0];simp[World.setCell]
  have hc0:Ch w nL qn:=by rw[hW0];exact Ch.set _ _ _ _
  have hv0:mO w0 nL qn qv (n+1):=hv.go hc0 (by rw[hW0];exact mg hv.cn _)
  obtain⟨W2,hW2⟩:∃W2,W2=(nL.alloc (.cells #[.int .i64 e.kind,.slice o1 e.names.length q1,.slice o3 e.ends.length q3,.slice o2 e.parts.length q2] 58)).alloc (.cells #[.int .i64 deep] 3):=⟨_,rfl⟩
  have hb2:Below nL.heap.size nL W2:=by rw[hW2];exact ah (ah (Below.refl _ _) _) _
  have hE2:W2.heap[w.heap.size]? = some (.cells #[.int .i64 e.kind,.slice o1 e.names.length q1,.slice o3 e.ends.length q3,.slice o2 e.parts.length q2] 58 (0,0)):=by
   rw[hW2,Below.heap_alloc _ _ _ (by simp[hsz0]),←hsz0];exact heap_alloc_new nL _
  have hD2:W2.heap[w.heap.size+1]? = some (.cells #[.int .i64 deep] 3 (0,0)):=by
   rw[hW2]
   have:=heap_alloc_new (nL.alloc (.cells #[.int .i64 e.kind,.slice o1 e.names.length q1,.slice o3 e.ends.length q3,.slice o2 e.parts.length q2] 58)) (.cells #[.int .i64 deep] 3)
   simpa [hsz0] using this
  have hv2:mO w0 W2 qn qv (n+1):=hv0.moved hb2
  have hcw:Ch w W2 qn:=hc0.xU hb2
  have hstep:((w.setCell ⟨qn,0,none⟩ (.int .i64 ((n:Int)+1))).alloc (.cells #[.int .i64 e.kind,.slice o1 e.names.length q1,.slice o3 e.ends.length q3,.slice o2 e.parts.length q2] 58)).alloc (.cells #[.int .i64 deep] 3)=W2:=by rw[hW2,hW0];rfl
  have hsz2:w.heap.size+1<W2.heap.size:=dK hD2
  have hnz:(n:Int)≤1000:=by omega
  have hdz:(deep:Int)≤1000:=by omega
  obtain⟨d0,g0⟩:=aj hv2.cn
  obtain⟨d1,g1⟩:=aj hD2
  have H2:=Lib.hid (And.intro hv2 (And.intro hcw (And.intro hE2 hD2)))
  have rC:=Lib.hid hall
  have HR:=Lib.hid hr
  have HST:=Lib.hid hstep
  clear hv hc0 hv0 hv2 hcw hE2 hD2 hb2 hW0 hW2 hsz0 hall hr hstep
  by_cases PU:60<n+1
  · have hres := Lib.hid (show e.vis n deep = (false, n + 1) by rw [tX, if_pos (.inl PU)])
    have t60:decide ((60:Int)<(n:Int)+1)=true:=by simp;omega
    clear tX
    go_enter Tryz.func132,Tryz.ntmps132
    go_wp2_with fail
    go_ret
    unfold vT
    rw[hres.out]
    refine⟨rfl,?_,?_⟩
    · rw[HST.out];exact H2.out.1
    · rw[HST.out];exact H2.out.2.1
  have t60:decide ((60:Int)<(n:Int)+1)=false:=by simp;omega
  by_cases PV:12<deep
  · have hres := Lib.hid (show e.vis n deep = (false, n + 1) by rw [tX, if_pos (.inr PV)])
    have t12:decide ((12:Int)<(deep:Int))=true:=by simp;omega
    clear tX
    go_enter Tryz.func132,Tryz.ntmps132
    go_wp2_with fail
    go_ret
    unfold vT
    rw[hres.out,HST.out]
    exact⟨rfl,H2.out.1,H2.out.2.1⟩
  have t12:decide ((12:Int)<(deep:Int))=false:=by simp;omega
  have hE2:=H2.out.2.2.1
  have hcell : ∀ w', Below W2.heap.size W2 w' → w'.cell? ⟨w.heap.size, 0, none⟩ = some (.int .i64 e.kind) ∧ w'.cell? ⟨w.heap.size, 1, none⟩ = some (.slice o1 e.names.length q1) ∧ w'.cell? ⟨w.heap.size, 2, none⟩ = some (.slice o3 e.ends.length q3) ∧ w'.cell? ⟨w.heap.size, 3, none⟩ = some (.slice o2 e.parts.length q2) := fun w' hb => by
   have:=aB hb hE2
   simp[World.cell?,this]
  obtain⟨x0,x1,x9,x2⟩:=hcell W2 (Below.refl _ _)
  have zm:=Lib.hid hcell
  clear hcell hE2
  · have GN := Lib.hid (show e.vis n deep = PT.eZ e.parts (n + 1) (deep + 1) by rw [tX, if_neg (by omega)])
    have PX:n+1≤60:=by omega
    have Zi:deep≤12:=by omega
    have ng:∀(fn:Fn) (first cap:Array Value) (w:World),(Instr.makeFunc fn first cap).run Tryz.prog w=.ok (.func fn first cap) w:=fun _ _ _ _=>rfl
    clear tX
    go_enter Tryz.func132,Tryz.ntmps132
    go_wp2_with fail
    rw[HST.out]
    have H3:=Lib.hid (And.intro H2.out.1 (And.intro H2.out.2.1 H2.out.2.2.2))
    refine (BQ e.parts.length o2 q2 (.pointer (some ⟨qv, 0, none⟩)) (.pointer (some ⟨w.heap.size + 1, 0, none⟩)) (fun i => .int .i64 (e.parts.getD i e).kind) c1 c3 c2
     (fun i w'=>∃m,m≤60∧mO w0 w' qn qv m∧Ch w w' qn∧w'.heap[w.heap.size+1]? = some (.cells #[.int .i64 deep] 3 (0,0))∧PT.eZ e.parts (n+1) (deep+1)=PT.eZ (e.parts.drop i) m (deep+1))
     (fun i w'=>∃m,mO w0 w' qn qv m∧Ch w w' qn∧PT.eZ e.parts (n+1) (deep+1)=(false,m))
     W2 (by omega) ?hel ?hf ⟨n+1,PX,H3.out.1,H3.out.2.1,H3.out.2.2,by rw[List.drop_zero]⟩).mono ?_
    case hel=>
     intro i hi
     obtain⟨p,hp⟩:∃p,e.parts[i]? = some p:=⟨e.parts[i],List.getElem?_eq_getElem hi⟩
     obtain⟨Mg,b,off,rfl,hbl,k0,k1,k3,k2⟩:=rC.out i p hp
     have hg:e.parts.getD i e=p:=by rw[List.getD,hp];rfl
     refine⟨b,off,rfl,fun w' hSt=>?_⟩
     obtain⟨m,_,uN,_⟩:=hSt
     rw[hg]
     exact⟨(uN.aV.cell hbl).trans k0,(uN.aV.cell hbl).trans k1,(uN.aV.cell hbl).trans k3,(uN.aV.cell hbl).trans k2⟩
    case hf=>
     intro i w' hi hSt
     obtain⟨m,PY,uN,hcm,JU,mM⟩:=hSt
     obtain⟨p,hp⟩:∃p,e.parts[i]? = some p:=⟨e.parts[i],List.getElem?_eq_getElem hi⟩
     have hg:e.parts.getD i e=p:=by rw[List.getD,hp];rfl
     have hpe:e.parts[i]=p:=by rw[List.getElem?_eq_getElem hi] at hp;exact Option.some.inj hp
     have hsz:=PT.jT hp
     rw[hg]
     refine(Nl w0 N qn qv (w.heap.size+1) ih p (c1 i) (c3 i) (c2 i) m deep w' (by omega) (hf.part hp) (rC.out i p hp).1 uN (by omega) (by omega) JU).mono ?_
     rintro x w4 ⟨rfl,hv4,hc4⟩
     have rW:PT.eZ e.parts (n+1) (deep+1)=if (p.vis m (deep+1)).1=true then PT.eZ (e.parts.drop (i+1)) (p.vis m (deep+1)).2 (deep+1) else (false,(p.vis m (deep+1)).2):=by
      rw[mM,List.drop_eq_getElem_cons hi,PT.oH,hpe]
     cases hb:(p.vis m (deep+1)).1 with
     | true =>
      rw[hb,if_pos rfl] at rW
      exact .inr ⟨rfl,_,PT.Dl _ p (Nat.le_refl _) m (deep+1) hb,hv4,hcm.trans hc4,hc4.get JU (by have:=dK uN.cn;omega),rW⟩
     | false =>
      rw[hb,if_neg (by decide)] at rW
      exact .inl ⟨rfl,_,hv4,hcm.trans hc4,rW⟩
    rintro x w5 (⟨i,hi,rfl,m,hv5,aK,mM⟩|⟨rfl,m,PY,hv5,aK,hd5,mM⟩)
    · have H5 := Lib.hid (And.intro hv5 (And.intro aK mM))
      clear hv5 aK mM
      go_wp2_with fail
      go_ret
      unfold vT
      rw[GN.out,H5.out.2.2]
      exact⟨rfl,H5.out.1,H5.out.2.1⟩
    · rw [List.drop_length, PT.tV] at mM
      have H5:=Lib.hid (And.intro hv5 (And.intro aK mM))
      clear hv5 aK mM hd5
      go_wp2_with fail
      go_ret
      unfold vT
      rw[GN.out,H5.out.2.2]
      exact⟨rfl,H5.out.1,H5.out.2.1⟩
theorem Pj (e:PT) (nv ev lv:Value) (w:World) (h:bU w e nv ev lv) (hf:e.Fit) :
 Calls Tryz.prog 102 #[.agg #[.int .i64 e.kind,nv,ev,lv]] w fun x w'=>x=.returned (.bool e.EH)∧Below w.heap.size w w':=by
 obtain⟨⟨o1,q1,rfl⟩,⟨o3,q3,rfl⟩,⟨o2,q2,rfl⟩⟩:=h.form
 have hva:=fun w' (hv:mO w w' (w.heap.size+1) (w.heap.size+1+1) 0)=>Nn w (w.heap.size+1) (w.heap.size+1+1) e.size e _ _ _ 0 1 w' (Nat.le_refl _) hf h hv (by omega) (by omega)
 have HV:=Lib.hid hva
 have ng:∀(fn:Fn) (first cap:Array Value) (w:World),(Instr.makeFunc fn first cap).run Tryz.prog w=.ok (.func fn first cap) w:=fun _ _ _ _=>rfl
 clear hva h hf
 go_enter Tryz.func102,Tryz.ntmps102
 go_wp2_with fail
 obtain⟨W,hW⟩:∃W,W=((w.alloc (.cells #[.int .i64 e.kind,.slice o1 e.names.length q1,.slice o3 e.ends.length q3,.slice o2 e.parts.length q2] 58)).alloc (.cells #[.int .i64 0] 3)).alloc (.cells #[GR (w.heap.size+1) (w.heap.size+1+1)] 177):=⟨_,rfl⟩
 have hb:Below w.heap.size w W:=by rw[hW];exact ah (ah (ah (Below.refl _ _) _) _) _
 have hv:mO w W (w.heap.size+1) (w.heap.size+1+1) 0:=by
  refine⟨hb,?_,?_,by omega,by omega,by omega⟩
  · rw [hW, Below.heap_alloc _ _ _ (by simp)]
    have:=heap_alloc_new (w.alloc (.cells #[.int .i64 e.kind,.slice o1 e.names.length q1,.slice o3 e.ends.length q3,.slice o2 e.parts.length q2] 58)) (.cells #[.int .i64 0] 3)
    simpa using this
  · rw [hW]
    have:=heap_alloc_new ((w.alloc (.cells #[.int .i64 e.kind,.slice o1 e.names.length q1,.slice o3 e.ends.length q3,.slice o2 e.parts.length q2] 58)).alloc (.cells #[.int .i64 0] 3)) (.cells #[GR (w.heap.size+1) (w.heap.size+1+1)] 177)
    simpa using this
 refine(HV.out _ (by unfold GR at hW;first|exact hW▸hv|(rw[←hW];exact hv))).mono ?_
 rintro x w2 ⟨rfl,hv2,hc2⟩
 have H2:=Lib.hid hv2.aV
 clear hv2 hc2
 go_wp2_with fail
 go_ret
 exact⟨rfl,H2.out⟩
namespace PT
mutual
def emp:PT→Bool
 | .mk k n e l=>if k=1∨k=4∨k=7 then true else if k=5 then (decide (l.length=2) && P5 l) else if k=6 then nC l else false
def nC:List PT→Bool
 | []=>false
 | e::l=>emp e || nC l
def P5:List PT→Bool
 | []=>true
 | e::l=>emp e && P5 l
end
theorem M8 (e:PT):e.emp=if e.kind=1∨e.kind=4∨e.kind=7 then true else if e.kind=5 then (decide (e.parts.length=2) && P5 e.parts) else if e.kind=6 then nC e.parts else false:=by cases e;rw[emp];rfl
theorem Aw (l:List PT):nC l=true↔∃(i:Nat) (e:PT),l[i]? = some e∧e.emp=true:=by
 induction l with
 | nil=>rw[nC];simp
 | cons a l ih =>
  rw[nC,Bool.or_eq_true,ih]
  constructor
  · rintro (h | ⟨i, e, h1, h2⟩)
    · exact⟨0,a,rfl,h⟩
    · exact⟨i+1,e,by simpa using h1,h2⟩
  · rintro ⟨i, e, h1, h2⟩
    cases i with
    | zero=>simp at h1;subst h1;exact .inl h2
    | succ i=>exact .inr ⟨i,e,by simpa using h1,h2⟩
end PT
def PT.iN (e:PT):Bool:=if e.kind=2 then (decide (0<e.names.length) && decide (e.ends.length=0) && decide (e.parts.length=0)) else if e.kind=3 then (decide (0<e.names.length) && decide (0<e.ends.length) && decide (e.parts.length=1)) else if e.kind=1∨e.kind=4 then (decide (e.names.length=0) && decide (e.ends.length=0) && decide (e.parts.length=0)) else if e.kind=5∨e.kind=6 then (decide (e.names.length=0) && decide (e.ends.length=0) && decide (e.parts.length=2)) else if e.kind=7 then (decide (e.names.length=0) && decide (e.ends.length=0) && decide (e.parts.length=1)) else false
theorem Dh (e:PT) (nv ev lv:Value) (w:World) (h:bU w e nv ev lv) (hf:e.Fit) :
 Calls Tryz.prog 135 #[.agg #[.int .i64 e.kind,nv,ev,lv]] w fun x w'=>x=.returned (.bool e.iN)∧Below w.heap.size w w':=by
 obtain⟨⟨o1,q1,rfl⟩,⟨o3,q3,rfl⟩,⟨o2,q2,rfl⟩⟩:=h.form
 have hm:=hf.lens
 have dS:e.iN=if e.kind=2 then (decide (0<e.names.length) && decide (e.ends.length=0) && decide (e.parts.length=0)) else if e.kind=3 then (decide (0<e.names.length) && decide (0<e.ends.length) && decide (e.parts.length=1)) else if e.kind=1∨e.kind=4 then (decide (e.names.length=0) && decide (e.ends.length=0) && decide (e.parts.length=0)) else if e.kind=5∨e.kind=6 then (decide (e.names.length=0) && decide (e.ends.length=0) && decide (e.parts.length=2)) else if e.kind=7 then (decide (e.names.length=0) && decide (e.ends.length=0) && decide (e.parts.length=1)) else false:=rfl
 obtain⟨k,hk⟩:∃k,k=e.kind:=⟨_,rfl⟩
 obtain⟨n,hn⟩:∃n,n=e.names.length:=⟨_,rfl⟩
 obtain⟨m,hm'⟩:∃m,m=e.ends.length:=⟨_,rfl⟩
 obtain⟨l,hl⟩:∃l,l=e.parts.length:=⟨_,rfl⟩
 obtain⟨r,hr⟩:∃r,r=e.iN:=⟨_,rfl⟩
 rw[←hk,←hn,←hm',←hl,←hr] at dS
 rw[←hn,←hm',←hl] at hm
 rw[←hk,←hn,←hm',←hl,←hr]
 obtain⟨hm1,hm2,hm3⟩:=hm
 clear hk hn hm' hl hr hf h
 have HS:=Lib.hid dS
 clear dS
 by_cases k2:k=2
 · subst k2
   by_cases c0:0<n
   case neg=>
    have g0:decide ((0:Int)<(n:Int))=false:=by simp;omega
    have HX:=Lib.hid (show r=false by rw[HS.out];simp[c0])
    go_enter Tryz.func135,Tryz.ntmps135
    go_wp2_with fail
    go_quiet (fail)
    go_wp2_with fail
    go_ret
    exact⟨by rw[HX.out];rfl,by repeat (first|exact Below.refl _ _|(refine Below.drew ?_)|(refine below_drewN ?_ _)|(refine ah ?_ _))⟩
   have g0:decide ((0:Int)<(n:Int))=true:=by simp;omega
   by_cases c1:m=0
   case neg=>
    have g1:((m:Int) == 0)=false:=by simp;omega
    have HX:=Lib.hid (show r=false by rw[HS.out];simp[c0,c1])
    go_enter Tryz.func135,Tryz.ntmps135
    go_wp2_with fail
    go_quiet (fail)
    go_wp2_with fail
    go_ret
    exact⟨by rw[HX.out];rfl,by repeat (first|exact Below.refl _ _|(refine Below.drew ?_)|(refine below_drewN ?_ _)|(refine ah ?_ _))⟩
   have g1:((m:Int) == 0)=true:=by simp;omega
   by_cases c2:l=0
   case neg=>
    have g2:((l:Int) == 0)=false:=by simp;omega
    have HX:=Lib.hid (show r=false by rw[HS.out];simp[c0,c1,c2])
    go_enter Tryz.func135,Tryz.ntmps135
    go_wp2_with fail
    go_quiet (fail)
    go_wp2_with fail
    go_ret
    exact⟨by rw[HX.out];rfl,by repeat (first|exact Below.refl _ _|(refine Below.drew ?_)|(refine below_drewN ?_ _)|(refine ah ?_ _))⟩
   have g2:((l:Int) == 0)=true:=by simp;omega
   have HX:=Lib.hid (show r=true by rw[HS.out];simp[c0,c1,c2])
   go_enter Tryz.func135,Tryz.ntmps135
   go_wp2_with fail
   go_quiet (fail)
   go_wp2_with fail
   go_ret
   exact⟨by rw[HX.out];rfl,by repeat (first|exact Below.refl _ _|(refine Below.drew ?_)|(refine below_drewN ?_ _)|(refine ah ?_ _))⟩
 by_cases k3:k=3
 · subst k3
   by_cases c0:0<n
   case neg=>
    have g0:decide ((0:Int)<(n:Int))=false:=by simp;omega
    have HX:=Lib.hid (show r=false by rw[HS.out];simp[c0])
    go_enter Tryz.func135,Tryz.ntmps135
    go_wp2_with fail
    go_quiet (fail)
    go_wp2_with fail
    go_ret
    exact⟨by rw[HX.out];rfl,by repeat (first|exact Below.refl _ _|(refine Below.drew ?_)|(refine below_drewN ?_ _)|(refine ah ?_ _))⟩
   have g0:decide ((0:Int)<(n:Int))=true:=by simp;omega
   by_cases c1:0<m
   case neg=>
    have g1:decide ((0:Int)<(m:Int))=false:=by simp;omega
    have HX:=Lib.hid (show r=false by rw[HS.out];simp[c0,c1])
    go_enter Tryz.func135,Tryz.ntmps135
    go_wp2_with fail
    go_quiet (fail)
    go_wp2_with fail
    go_ret
    exact⟨by rw[HX.out];rfl,by repeat (first|exact Below.refl _ _|(refine Below.drew ?_)|(refine below_drewN ?_ _)|(refine ah ?_ _))⟩
   have g1:decide ((0:Int)<(m:Int))=true:=by simp;omega
   by_cases c2:l=1
   case neg=>
    have g2:((l:Int) == 1)=false:=by simp;omega
    have HX:=Lib.hid (show r=false by rw[HS.out];simp[c0,c1,c2])
    go_enter Tryz.func135,Tryz.ntmps135
    go_wp2_with fail
    go_quiet (fail)
    go_wp2_with fail
    go_ret
    exact⟨by rw[HX.out];rfl,by repeat (first|exact Below.refl _ _|(refine Below.drew ?_)|(refine below_drewN ?_ _)|(refine ah ?_ _))⟩
   have g2:((l:Int) == 1)=true:=by simp;omega
   have HX:=Lib.hid (show r=true by rw[HS.out];simp[c0,c1,c2])
   go_enter Tryz.func135,Tryz.ntmps135
   go_wp2_with fail
   go_quiet (fail)
   go_wp2_with fail
   go_ret
   exact⟨by rw[HX.out];rfl,by repeat (first|exact Below.refl _ _|(refine Below.drew ?_)|(refine below_drewN ?_ _)|(refine ah ?_ _))⟩
 by_cases k1:k=1
 · subst k1
   by_cases c0:n=0
   case neg=>
    have g0:((n:Int) == 0)=false:=by simp;omega
    have HX:=Lib.hid (show r=false by rw[HS.out];simp[c0])
    go_enter Tryz.func135,Tryz.ntmps135
    go_wp2_with fail
    go_quiet (fail)
    go_wp2_with fail
    go_ret
    exact⟨by rw[HX.out];rfl,by repeat (first|exact Below.refl _ _|(refine Below.drew ?_)|(refine below_drewN ?_ _)|(refine ah ?_ _))⟩
   have g0:((n:Int) == 0)=true:=by simp;omega
   by_cases c1:m=0
   case neg=>
    have g1:((m:Int) == 0)=false:=by simp;omega
    have HX:=Lib.hid (show r=false by rw[HS.out];simp[c0,c1])
    go_enter Tryz.func135,Tryz.ntmps135
    go_wp2_with fail
    go_quiet (fail)
    go_wp2_with fail
    go_ret
    exact⟨by rw[HX.out];rfl,by repeat (first|exact Below.refl _ _|(refine Below.drew ?_)|(refine below_drewN ?_ _)|(refine ah ?_ _))⟩
   have g1:((m:Int) == 0)=true:=by simp;omega
   by_cases c2:l=0
   case neg=>
    have g2:((l:Int) == 0)=false:=by simp;omega
    have HX:=Lib.hid (show r=false by rw[HS.out];simp[c0,c1,c2])
    go_enter Tryz.func135,Tryz.ntmps135
    go_wp2_with fail
    go_quiet (fail)
    go_wp2_with fail
    go_ret
    exact⟨by rw[HX.out];rfl,by repeat (first|exact Below.refl _ _|(refine Below.drew ?_)|(refine below_drewN ?_ _)|(refine ah ?_ _))⟩
   have g2:((l:Int) == 0)=true:=by simp;omega
   have HX:=Lib.hid (show r=true by rw[HS.out];simp[c0,c1,c2])
   go_enter Tryz.func135,Tryz.ntmps135
   go_wp2_with fail
   go_quiet (fail)
   go_wp2_with fail
   go_ret
   exact⟨by rw[HX.out];rfl,by repeat (first|exact Below.refl _ _|(refine Below.drew ?_)|(refine below_drewN ?_ _)|(refine ah ?_ _))⟩
 by_cases k4:k=4
 · subst k4
   by_cases c0:n=0
   case neg=>
    have g0:((n:Int) == 0)=false:=by simp;omega
    have HX:=Lib.hid (show r=false by rw[HS.out];simp[c0])
    go_enter Tryz.func135,Tryz.ntmps135
    go_wp2_with fail
    go_quiet (fail)
    go_wp2_with fail
    go_ret
    exact⟨by rw[HX.out];rfl,by repeat (first|exact Below.refl _ _|(refine Below.drew ?_)|(refine below_drewN ?_ _)|(refine ah ?_ _))⟩
   have g0:((n:Int) == 0)=true:=by simp;omega
   by_cases c1:m=0
   case neg=>
    have g1:((m:Int) == 0)=false:=by simp;omega
    have HX:=Lib.hid (show r=false by rw[HS.out];simp[c0,c1])
    go_enter Tryz.func135,Tryz.ntmps135
    go_wp2_with fail
    go_quiet (fail)
    go_wp2_with fail
    go_ret
    exact⟨by rw[HX.out];rfl,by repeat (first|exact Below.refl _ _|(refine Below.drew ?_)|(refine below_drewN ?_ _)|(refine ah ?_ _))⟩
   have g1:((m:Int) == 0)=true:=by simp;omega
   by_cases c2:l=0
   case neg=>
    have g2:((l:Int) == 0)=false:=by simp;omega
    have HX:=Lib.hid (show r=false by rw[HS.out];simp[c0,c1,c2])
    go_enter Tryz.func135,Tryz.ntmps135
    go_wp2_with fail
    go_quiet (fail)
    go_wp2_with fail
    go_ret
    exact⟨by rw[HX.out];rfl,by repeat (first|exact Below.refl _ _|(refine Below.drew ?_)|(refine below_drewN ?_ _)|(refine ah ?_ _))⟩
   have g2:((l:Int) == 0)=true:=by simp;omega
   have HX:=Lib.hid (show r=true by rw[HS.out];simp[c0,c1,c2])
   go_enter Tryz.func135,Tryz.ntmps135
   go_wp2_with fail
   go_quiet (fail)
   go_wp2_with fail
   go_ret
   exact⟨by rw[HX.out];rfl,by repeat (first|exact Below.refl _ _|(refine Below.drew ?_)|(refine below_drewN ?_ _)|(refine ah ?_ _))⟩
 by_cases k5:k=5
 · subst k5
   by_cases c0:n=0
   case neg=>
    have g0:((n:Int) == 0)=false:=by simp;omega
    have HX:=Lib.hid (show r=false by rw[HS.out];simp[c0])
    go_enter Tryz.func135,Tryz.ntmps135
    go_wp2_with fail
    go_quiet (fail)
    go_wp2_with fail
    go_ret
    exact⟨by rw[HX.out];rfl,by repeat (first|exact Below.refl _ _|(refine Below.drew ?_)|(refine below_drewN ?_ _)|(refine ah ?_ _))⟩
   have g0:((n:Int) == 0)=true:=by simp;omega
   by_cases c1:m=0
   case neg=>
    have g1:((m:Int) == 0)=false:=by simp;omega
    have HX:=Lib.hid (show r=false by rw[HS.out];simp[c0,c1])
    go_enter Tryz.func135,Tryz.ntmps135
    go_wp2_with fail
    go_quiet (fail)
    go_wp2_with fail
    go_ret
    exact⟨by rw[HX.out];rfl,by repeat (first|exact Below.refl _ _|(refine Below.drew ?_)|(refine below_drewN ?_ _)|(refine ah ?_ _))⟩
   have g1:((m:Int) == 0)=true:=by simp;omega
   by_cases c2:l=2
   case neg=>
    have g2:((l:Int) == 2)=false:=by simp;omega
    have HX:=Lib.hid (show r=false by rw[HS.out];simp[c0,c1,c2])
    go_enter Tryz.func135,Tryz.ntmps135
    go_wp2_with fail
    go_quiet (fail)
    go_wp2_with fail
    go_ret
    exact⟨by rw[HX.out];rfl,by repeat (first|exact Below.refl _ _|(refine Below.drew ?_)|(refine below_drewN ?_ _)|(refine ah ?_ _))⟩
   have g2:((l:Int) == 2)=true:=by simp;omega
   have HX:=Lib.hid (show r=true by rw[HS.out];simp[c0,c1,c2])
   go_enter Tryz.func135,Tryz.ntmps135
   go_wp2_with fail
   go_quiet (fail)
   go_wp2_with fail
   go_ret
   exact⟨by rw[HX.out];rfl,by repeat (first|exact Below.refl _ _|(refine Below.drew ?_)|(refine below_drewN ?_ _)|(refine ah ?_ _))⟩
 by_cases k6:k=6
 · subst k6
   by_cases c0:n=0
   case neg=>
    have g0:((n:Int) == 0)=false:=by simp;omega
    have HX:=Lib.hid (show r=false by rw[HS.out];simp[c0])
    go_enter Tryz.func135,Tryz.ntmps135
    go_wp2_with fail
    go_quiet (fail)
    go_wp2_with fail
    go_ret
    exact⟨by rw[HX.out];rfl,by repeat (first|exact Below.refl _ _|(refine Below.drew ?_)|(refine below_drewN ?_ _)|(refine ah ?_ _))⟩
   have g0:((n:Int) == 0)=true:=by simp;omega
   by_cases c1:m=0
   case neg=>
    have g1:((m:Int) == 0)=false:=by simp;omega
    have HX:=Lib.hid (show r=false by rw[HS.out];simp[c0,c1])
    go_enter Tryz.func135,Tryz.ntmps135
    go_wp2_with fail
    go_quiet (fail)
    go_wp2_with fail
    go_ret
    exact⟨by rw[HX.out];rfl,by repeat (first|exact Below.refl _ _|(refine Below.drew ?_)|(refine below_drewN ?_ _)|(refine ah ?_ _))⟩
   have g1:((m:Int) == 0)=true:=by simp;omega
   by_cases c2:l=2
   case neg=>
    have g2:((l:Int) == 2)=false:=by simp;omega
    have HX:=Lib.hid (show r=false by rw[HS.out];simp[c0,c1,c2])
    go_enter Tryz.func135,Tryz.ntmps135
    go_wp2_with fail
    go_quiet (fail)
    go_wp2_with fail
    go_ret
    exact⟨by rw[HX.out];rfl,by repeat (first|exact Below.refl _ _|(refine Below.drew ?_)|(refine below_drewN ?_ _)|(refine ah ?_ _))⟩
   have g2:((l:Int) == 2)=true:=by simp;omega
   have HX:=Lib.hid (show r=true by rw[HS.out];simp[c0,c1,c2])
   go_enter Tryz.func135,Tryz.ntmps135
   go_wp2_with fail
   go_quiet (fail)
   go_wp2_with fail
   go_ret
   exact⟨by rw[HX.out];rfl,by repeat (first|exact Below.refl _ _|(refine Below.drew ?_)|(refine below_drewN ?_ _)|(refine ah ?_ _))⟩
 by_cases k7:k=7
 · subst k7
   by_cases c0:n=0
   case neg=>
    have g0:((n:Int) == 0)=false:=by simp;omega
    have HX:=Lib.hid (show r=false by rw[HS.out];simp[c0])
    go_enter Tryz.func135,Tryz.ntmps135
    go_wp2_with fail
    go_quiet (fail)
    go_wp2_with fail
    go_ret
    exact⟨by rw[HX.out];rfl,by repeat (first|exact Below.refl _ _|(refine Below.drew ?_)|(refine below_drewN ?_ _)|(refine ah ?_ _))⟩
   have g0:((n:Int) == 0)=true:=by simp;omega
   by_cases c1:m=0
   case neg=>
    have g1:((m:Int) == 0)=false:=by simp;omega
    have HX:=Lib.hid (show r=false by rw[HS.out];simp[c0,c1])
    go_enter Tryz.func135,Tryz.ntmps135
    go_wp2_with fail
    go_quiet (fail)
    go_wp2_with fail
    go_ret
    exact⟨by rw[HX.out];rfl,by repeat (first|exact Below.refl _ _|(refine Below.drew ?_)|(refine below_drewN ?_ _)|(refine ah ?_ _))⟩
   have g1:((m:Int) == 0)=true:=by simp;omega
   by_cases c2:l=1
   case neg=>
    have g2:((l:Int) == 1)=false:=by simp;omega
    have HX:=Lib.hid (show r=false by rw[HS.out];simp[c0,c1,c2])
    go_enter Tryz.func135,Tryz.ntmps135
    go_wp2_with fail
    go_quiet (fail)
    go_wp2_with fail
    go_ret
    exact⟨by rw[HX.out];rfl,by repeat (first|exact Below.refl _ _|(refine Below.drew ?_)|(refine below_drewN ?_ _)|(refine ah ?_ _))⟩
   have g2:((l:Int) == 1)=true:=by simp;omega
   have HX:=Lib.hid (show r=true by rw[HS.out];simp[c0,c1,c2])
   go_enter Tryz.func135,Tryz.ntmps135
   go_wp2_with fail
   go_quiet (fail)
   go_wp2_with fail
   go_ret
   exact⟨by rw[HX.out];rfl,by repeat (first|exact Below.refl _ _|(refine Below.drew ?_)|(refine below_drewN ?_ _)|(refine ah ?_ _))⟩
 have HX:=Lib.hid (show r=false by rw[HS.out];simp[k1,k2,k3,k4,k5,k6,k7])
 have b1:(k == 1)=false:=by simpa using k1
 have b2:(k == 2)=false:=by simpa using k2
 have b3:(k == 3)=false:=by simpa using k3
 have b4:(k == 4)=false:=by simpa using k4
 have b5:(k == 5)=false:=by simpa using k5
 have b6:(k == 6)=false:=by simpa using k6
 have b7:(k == 7)=false:=by simpa using k7
 go_enter Tryz.func135,Tryz.ntmps135
 go_wp2_with fail
 go_quiet (fail)
 go_wp2_with fail
 go_ret
 exact⟨by rw[HX.out];rfl,by repeat (first|exact Below.refl _ _|(refine Below.drew ?_)|(refine below_drewN ?_ _)|(refine ah ?_ _))⟩
end Go.Proofs.YtfkmajjgkdjncaaGreatDoor
