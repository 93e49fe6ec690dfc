import Derived.Test.YtfkmajjgkdjncaaGreatDoorReMay2
import Derived.Test.YtfkmajjgkdjncaaGreatDoorBut
import Derived.Deep.AppendLies
import Derived.Deep.RegionLaw
set_option linter.unusedVariables false
set_option linter.unusedSimpArgs false
set_option maxHeartbeats 8000000
set_option maxRecDepth 100000
namespace Go.Proofs.YtfkmajjgkdjncaaGreatDoor
open Go.RowKit Ru
namespace RE
mutual
def emp:RE→Bool
 | .mk k s l=>if k=1∨k=5 then true else if k=4 then nC l else if k=3 then GD l else false
def nC:List RE→Bool
 | []=>false
 | e::l=>emp e || nC l
def GD:List RE→Bool
 | []=>false
 | e::l=>emp e && (match l with|[]=>false|f::_=>emp f)
end
theorem M8 (e:RE):e.emp=if e.kind=1∨e.kind=5 then true else if e.kind=4 then nC e.parts else if e.kind=3 then GD e.parts else false:=by cases e;rw[emp];rfl
theorem Aw (l:List RE):nC l=true↔∃(i:Nat) (e:RE),l[i]? = some e∧e.emp=true:=by
 induction l with
 | nil=>rw[nC];simp
 | cons a l ih =>
  rw[nC,Bool.or_eq_true,ih]
  constructor
  · rintro (h | ⟨i, e, h1, h2⟩)
    · exact⟨0,a,rfl,h⟩
    · exact⟨i+1,e,by simpa using h1,h2⟩
  · rintro ⟨i, e, h1, h2⟩
    cases i with
    | zero=>simp at h1;subst h1;exact .inl h2
    | succ i=>exact .inr ⟨i,e,by simpa using h1,h2⟩
theorem PG (a b:RE) (l:List RE):GD (a::b::l)=(a.emp && b.emp):=by rw[GD]
inductive Wf:RE→Prop
 | mk (k:Int) (s:List (Int×Int)) (l:List RE) (h3:k=3→2≤l.length) (h:∀(i:Nat) (e:RE),l[i]? = some e→Wf e):Wf (.mk k s l)
theorem Wf.part {e p:RE} {i:Nat} (h:Wf e) (hp:e.parts[i]? = some p):Wf p:=by cases h with|mk k s l h3 h=>exact h i p hp
theorem Wf.three {e:RE} (h:Wf e) (hk:e.kind=3):2≤e.parts.length:=by cases h with|mk k s l h3 h=>exact h3 hk
theorem VX:∀(N:Nat) (e:RE),e.size≤N→∀n d,(e.vis n d).1=true→Wf e:=by
 intro N
 induction N with
 | zero=>intro e h;have:=e.size_pos;omega
 | succ N ih =>
  intro e hs n d h
  rw[RE.vR] at h
  split at h
  · cases h
  · rename_i hc
    have hsh:e.iN=true:=by
     cases hx:e.iN with
     | false=>exact absurd (.inr (.inr hx)) hc
     | true=>rfl
    have hp:∀p∈e.parts,p.size≤N:=fun p hpm=>by obtain⟨i,hi,rfl⟩:=List.getElem_of_mem hpm;have:=RE.jT (e:=e) (List.getElem?_eq_getElem hi);omega
    have all:∀(l:List RE) (m:Nat),(∀p∈l,p.size≤N)→(RE.eZ l m (d+1)).1=true→∀p∈l,Wf p:=by
     intro l
     induction l with
     | nil=>intro m _ _ p hp;simp at hp
     | cons a l ihl =>
      intro m hl h p hpm
      rw[RE.oH] at h
      split at h
      · rename_i ha
        rcases List.mem_cons.1 hpm with rfl|hpm
        · exact ih p (hl p (by simp)) m (d+1) ha
        · exact ihl _ (fun p hp=>hl p (by simp[hp])) h p hpm
      · cases h
    have h1:=all e.parts (n+1) hp h
    cases e with
    | mk k s l =>
     refine .mk k s l (fun hk=>?_) (fun i e he=>h1 e (List.mem_of_getElem? he))
     subst hk
     unfold iN kind set parts at hsh
     simp at hsh
     omega
theorem VY {e:RE} (h:e.may=true):Wf e:=VX e.size e (Nat.le_refl _) 0 1 h
end RE
def fT (w:World) (q:Nat) (e:RE):Prop:=∃sv pv,w.heap[q]? = some (.cells #[.int .i64 e.kind,sv,pv,.bool e.emp,.bool false] 173 (0,0))
theorem fT.moved {w w':World} {q:Nat} {e:RE} (h:fT w q e) (hb:Below w.heap.size w w'):fT w' q e:=by
 obtain⟨sv,pv,h⟩:=h;exact⟨sv,pv,aB hb h⟩
theorem fT.same {w w':World} {q:Nat} {e:RE} (h:fT w q e) (hb:w'.heap[q]? = w.heap[q]?):fT w' q e:=by
 obtain⟨sv,pv,h⟩:=h;exact⟨sv,pv,hb.trans h⟩
theorem GH {w w':World} {base size n p:Nat} {e:TypeId} {v:Value} {xs:List Value} (h:w.ownsRow base e size v n xs) (hne:some p≠v.ownBlock) (hk:∀k,k≠p→w'.heap[k]? = w.heap[k]?):w'.ownsRow base e size v n xs:=by
 obtain⟨h1,h2⟩:=h
 rcases h2 with hn|⟨g,cap,cur,rfl,hg,hh,hr⟩
 · exact⟨h1,.inl hn⟩
 · refine ⟨h1, .inr ⟨g, cap, cur, rfl, hg, ?_, hr⟩⟩
   rw[hk g (by intro e;subst e;simp[Value.ownBlock] at hne)]
   exact hh
theorem fT.lt {w:World} {q:Nat} {e:RE} (h:fT w q e):q<w.heap.size:=by obtain⟨sv,pv,h⟩:=h;exact dK h
theorem fT.emp {w:World} {q:Nat} {e:RE} (h:fT w q e):w.cell? ⟨q,3,none⟩=some (.bool e.emp):=by obtain⟨sv,pv,h⟩:=h;simp[World.cell?,h]
def ptrs (qs:List Nat):List Value:=qs.map fun q=>.pointer (some ⟨q,0,none⟩)
theorem qL (q:Nat) (b:Bool) (w:World) (h:w.cell? ⟨q,3,none⟩=some (.bool b)) :
 Calls Tryz.prog 147 #[.pointer (some ⟨q,0,none⟩)] w fun e w'=>e=.returned (.bool b)∧w=w':=by
 go_enter Tryz.func147,Tryz.ntmps147
 go_wp2_with fail
 go_ret
 exact⟨rfl,rfl⟩
theorem I9 (n:Nat) (o:Option Addr) (cap:Nat) (c0:Nat→Nat) (St:Nat→World→Prop) (Fin:Nat→World→Prop) (w:World) (hn:n≤1000000)
 (hel:∀i,i<n→∃b off,o=some ⟨b,off,none⟩∧∀w',St i w'→w'.cell? ⟨b,off+i,none⟩=some (.pointer (some ⟨c0 i,0,none⟩)))
 (hf:∀i w',i<n→St i w'→Calls Tryz.prog 147 #[.pointer (some ⟨c0 i,0,none⟩)] w' fun e w''=>(e=.returned (.bool true)∧Fin i w'')∨(e=.returned (.bool false)∧St (i+1) w''))
 (h0:St 0 w) :
 Calls Tryz.prog 167 #[.slice o n cap,.func (Fn.func 147) #[] #[]] w fun e w'=>(∃i:Nat,i<n∧e=.returned (.int .i64 i)∧Fin i w')∨(e=.returned (.int .i64 (-1))∧St n w'):=by
 have mF:=Lib.hid hel
 have HF:=Lib.hid hf
 clear hel hf
 go_enter Tryz.func167,Tryz.ntmps167
 go_wp2_with fail
 go_loopg [8] n (fun g i wx=>∃k:Nat,k+g=n∧i=.int .i64 k∧St k wx)
 case atStart=>exact⟨0,by omega,rfl,h0⟩
 case round=>
  obtain⟨k,hkg,rfl,hSt⟩:=hrel
  obtain⟨wo,rfl⟩:∃wo:World,wo=wr:=⟨_,rfl⟩
  cases gk with
  | zero =>
   obtain rfl:k=n:=by omega
   have hd:decide ((k:Int)<(k:Int))=false:=by simp
   have HS:=Lib.hid hSt
   clear hSt
   go_wp2
   go_ret
   exact .inr ⟨rfl,HS.out⟩
  | succ g =>
   have hk:k<n:=by omega
   have hd:decide ((k:Int)<(n:Int))=true:=by simp;omega
   have hk1:(0:Int)≤(k:Int):=by omega
   have hk2:(k:Int)<(n:Int):=by omega
   have jC:(k:Int)≤1000000:=by omega
   obtain⟨b,off,rfl,hcell⟩:=mF.out k hk
   have k0:=hcell wo hSt
   have hc:=HF.out k wo hk hSt
   obtain⟨d0,hd0⟩:∃d,d=c0 k:=⟨_,rfl⟩
   rw[←hd0] at k0 hc
   clear hd0
   have HC:=Lib.hid hc
   clear hcell hSt hc
   go_wp2_with fail
   refine HC.out.mono ?_
   rintro e w2 (⟨rfl,hfin⟩|⟨rfl,hst⟩)
   · have HX := Lib.hid hfin
     clear hfin
     go_wp2
     go_ret
     exact .inl ⟨k,hk,rfl,HX.out⟩
   · have HX := Lib.hid hst
     clear hst
     go_wp2
     go_roundg g
     case measure=>omega
     case rel=>exact⟨k+1,by omega,by go_num,HX.out⟩
theorem Dk (n:Nat) (o:Option Addr) (cap:Nat) (c0:Nat→Nat) (St:Nat→World→Prop) (Fin:Nat→World→Prop) (w:World) (hn:n≤1000000)
 (hel:∀i,i<n→∃b off,o=some ⟨b,off,none⟩∧∀w',St i w'→w'.cell? ⟨b,off+i,none⟩=some (.pointer (some ⟨c0 i,0,none⟩)))
 (hf:∀i w',i<n→St i w'→Calls Tryz.prog 147 #[.pointer (some ⟨c0 i,0,none⟩)] w' fun e w''=>(e=.returned (.bool true)∧Fin i w'')∨(e=.returned (.bool false)∧St (i+1) w''))
 (h0:St 0 w) :
 Calls Tryz.prog 148 #[.slice o n cap,.func (Fn.func 147) #[] #[]] w fun e w'=>(∃i:Nat,i<n∧e=.returned (.bool true)∧Fin i w')∨(e=.returned (.bool false)∧St n w'):=by
 have hc:=I9 n o cap c0 St Fin w hn hel hf h0
 have HC:=Lib.hid hc
 clear hc hf hel
 go_enter Tryz.func148,Tryz.ntmps148
 go_wp2_with fail
 refine HC.out.mono ?_
 rintro e w2 (⟨i,hi,rfl,hfin⟩|⟨rfl,hst⟩)
 · have HX := Lib.hid hfin
   have hi0:decide ((0:Int)≤(i:Int))=true:=by simp
   have hi9:(i:Int)≤1000000:=by omega
   clear hfin
   go_wp2
   go_ret
   exact .inl ⟨i,hi,rfl,HX.out⟩
 · have HX := Lib.hid hst
   clear hst
   go_wp2
   go_ret
   exact .inr ⟨rfl,HX.out⟩
theorem M9:∃i,Tryz.prog.info? 174=some i∧i.zero=some (.pointer none)∧i.size=1∧i.bytes=8:=info_parts (by kernel_rfl)
theorem Tj (w:World) (u:Value) (e:TypeId) (B:Nat) (hB:w.heap.size=B):Row (w.alloc (.cells #[u] e)) (.slice (some ⟨B,0,none⟩) 1 1) 1 [u]:=by
 subst hB
 have h1:=World.ownsRow_lit (e:=e) (base:=w.heap.size) (size:=1) w #[u] 1 (Nat.le_refl _) (by decide) (by simp)
 simpa using Row.owned h1
theorem bX {w:World} {base:Nat} {e:TypeId} {size n:Nat} {v:Value} {xs:List Value} (h:w.ownsRow base e size v n xs):w.drew.ownsRow base e size v n xs:=bS h ((Below.refl _ _).drew)
theorem K9 {w:World} {p:Nat} {a b c d e:Value} {t:TypeId} (h:w.heap[p]? = some (.cells #[a,b,c,d,e] t (0,0))):w.cell? ⟨p,2,none⟩=some c∧w.frozen? ⟨p,2,none⟩=false:=by simp[World.cell?,World.frozen?,h]
theorem Na {w:World} {p:Nat} {a b c d e:Value} {t:TypeId} (h:w.heap[p]? = some (.cells #[a,b,c,d,e] t (0,0))) (x:Value):(w.setCell ⟨p,2,none⟩ x).heap[p]? = some (.cells #[a,b,x,d,e] t (0,0)):=by
 simp[World.setCell,Array.getElem?_modify,h]
theorem Nb {w:World} {p:Nat} {a b c d e:Value} {t:TypeId} (h:w.heap[p]? = some (.cells #[a,b,c,d,e] t (0,0))) (x:Value):(w.setCell ⟨p,3,none⟩ x).heap[p]? = some (.cells #[a,b,c,x,e] t (0,0)):=by
 simp[World.setCell,Array.getElem?_modify,h]
theorem PL {w:World} {q base n:Nat} {e:RE} {v:Value} {xs:List Value} (h:fT w q e) (ho:w.ownsRow base 174 1 v n xs):some q≠v.ownBlock:=by
 obtain⟨sv,pv,h⟩:=h
 rcases ho.2 with⟨rfl,_⟩|⟨g,cap,cur,rfl,hb,hg,_⟩
 · simp[Value.ownBlock]
 · intro hq
   simp[Value.ownBlock] at hq
   subst hq
   rw[h] at hg
   simp at hg
theorem GI (l:List RE) (qs:List Nat) (o:Option Addr) (cp base:Nat) (w0:World) (hown:w0.ownsRow base 174 1 (.slice o l.length cp) l.length (ptrs qs)) (hq:qs.length=l.length)
 (hn:∀(i:Nat) (c:RE) (q:Nat),l[i]? = some c→qs[i]? = some q→fT w0 q c) (hl:l.length≤1000) (w:World) (hb:Below w0.heap.size w0 w) :
 Calls Tryz.prog 148 #[.slice o l.length cp,.func (Fn.func 147) #[] #[]] w fun x w'=>x=.returned (.bool (RE.nC l))∧w=w':=by
 have hown:=bS hown hb
 have hn:∀(i:Nat) (c:RE) (q:Nat),l[i]? = some c→qs[i]? = some q→fT w q c:=fun i c q h1 h2=>(hn i c q h1 h2).moved hb
 have hget:∀i,i<l.length→∃c,l[i]? = some c∧fT w (qs.getD i 0) c∧qs[i]? = some (qs.getD i 0):=by
  intro i hi
  have h1:qs[i]? = some (qs.getD i 0):=by rw[List.getD,List.getElem?_eq_getElem (by omega)];rfl
  exact⟨_,List.getElem?_eq_getElem hi,hn i _ _ (List.getElem?_eq_getElem hi) h1,h1⟩
 refine(Dk l.length o cp (fun i=>qs.getD i 0) (fun i w'=>w=w'∧∀j c,j<i→l[j]? = some c→c.emp=false) (fun i w'=>w=w'∧∃c,l[i]? = some c∧c.emp=true) w (by omega) ?_ ?_ ⟨rfl,fun j c h=>by omega⟩).mono ?_
 · intro i hi
   obtain⟨c,h1,h2,h3⟩:=hget i hi
   rcases hown.2 with⟨hx,h0⟩|⟨g,cap,cur,hv,hbg,hgg,hr⟩
   · omega
   · cases hv
     refine⟨g,0,rfl,?_⟩
     rintro w' ⟨rfl,-⟩
     have:=hown.cells (g:=g) (by simp[Value.ownBlock]) i (.pointer (some ⟨qs.getD i 0,0,none⟩)) (by simp only[ptrs,List.getElem?_map,h3,Option.map_some])
     have ha:(⟨g,0,none⟩:Addr).add i=⟨g,i,none⟩:=by by_cases h0:i=0<;>simp[Addr.add,h0]
     rw[ha] at this
     simpa using this
 · rintro i w' hi ⟨rfl, hall⟩
   obtain⟨c,h1,h2,h3⟩:=hget i hi
   refine(qL _ _ _ h2.emp).mono ?_
   rintro x w2 ⟨rfl,rfl⟩
   cases hc:c.emp with
   | true=>exact .inl ⟨rfl,rfl,c,h1,hc⟩
   | false =>
    refine .inr ⟨rfl,rfl,fun j c' hj hc'=>?_⟩
    rcases Nat.lt_or_ge j i with h|h
    · exact hall j c' h hc'
    · obtain rfl : j = i := by omega
      rw[h1] at hc';cases hc';exact hc
 · rintro x w2 (⟨i, hi, rfl, rfl, c, h1, h2⟩ | ⟨rfl, rfl, hall⟩)
   · exact⟨by rw[(RE.Aw l).2 ⟨i,c,h1,h2⟩],rfl⟩
   · refine ⟨?_, rfl⟩
     cases hx:RE.nC l with
     | false=>rfl
     | true =>
      obtain⟨i,c,h1,h2⟩:=(RE.Aw l).1 hx
      rw[hall i c (List.getElem?_eq_some_iff.1 h1).1 h1] at h2
      cases h2
def Zd (w0:World) (N:Nat):Prop:=∀(e:RE) (sv lv:Value) (w:World),e.size≤N→e.Fit→e.Wf→bI w0 e sv lv→Below w0.heap.size w0 w →
 Calls Tryz.prog 130 #[.agg #[.int .i64 e.kind,sv,lv]] w fun x w'=>∃q,x=.returned (.pointer (some ⟨q,0,none⟩))∧fT w' q e∧w.heap.size≤q∧Below w.heap.size w w'
theorem PN (w0:World):∀N,Zd w0 N:=by
 intro N
 induction N with
 | zero=>intro e sv lv w hs;have:=e.size_pos;omega
 | succ N ih =>
  intro e sv lv w hs hf hwf hr hb0
  obtain⟨⟨o1,q1,rfl⟩,-⟩:=hr.form
  obtain⟨o2,q2,c1,c2,rfl,hall⟩:=hr.all
  have hm1:=hf.sets
  have rC:=Lib.hid hall
  have HF:=Lib.hid (And.intro hf hwf)
  obtain⟨ii,hi,hz0,hz1,hz2⟩:=M9
  clear hall hr
  go_enter Tryz.func130,Tryz.ntmps130
  go_wp2_with fail
  obtain⟨p,hp⟩:∃p,p=w.heap.size+1:=⟨_,rfl⟩
  obtain⟨W,hW⟩:∃W,W=(w.alloc (.cells #[.int .i64 e.kind,.slice o1 e.set.length q1,.slice o2 e.parts.length q2] 35)).alloc (.cells #[.int .i64 e.kind,.slice o1 e.set.length q1,.slice none 0 0,.bool false,.bool false] 173):=⟨_,rfl⟩
  have hbW:Below w.heap.size w W:=by rw[hW];exact ah (ah (Below.refl _ _) _) _
  have hE:W.heap[w.heap.size]? = some (.cells #[.int .i64 e.kind,.slice o1 e.set.length q1,.slice o2 e.parts.length q2] 35 (0,0)):=by
   rw[hW,Below.heap_alloc _ _ _ (by simp)];exact heap_alloc_new w _
  have hP:W.heap[p]? = some (.cells #[.int .i64 e.kind,.slice o1 e.set.length q1,.slice none 0 0,.bool false,.bool false] 173 (0,0)):=by
   rw[hW,hp]
   have:=heap_alloc_new (w.alloc (.cells #[.int .i64 e.kind,.slice o1 e.set.length q1,.slice o2 e.parts.length q2] 35)) (.cells #[.int .i64 e.kind,.slice o1 e.set.length q1,.slice none 0 0,.bool false,.bool false] 173)
   simpa using this
  have hpw:w.heap.size<p:=by omega
  have hb1:=hb0.size
  rw[←hW,←hp]
  have H0:=Lib.hid (And.intro hbW (And.intro hE hP))
  clear hbW hE hP hW hp
  go_loopg [16] e.parts.length (fun g s wx => ∃ (k : Nat) (qs : List Nat) (o : Option Addr) (cp : Nat), k + g = e.parts.length ∧ s = .int .i64 k ∧ qs.length = k ∧ Below w.heap.size w wx ∧ wx.heap[w.heap.size]? = some (.cells #[.int .i64 e.kind, .slice o1 e.set.length q1, .slice o2 e.parts.length q2] 35 (0, 0)) ∧
   wx.heap[p]? = some (.cells #[.int .i64 e.kind,.slice o1 e.set.length q1,.slice o k cp,.bool false,.bool false] 173 (0,0))∧wx.ownsRow (p+1) 174 1 (.slice o k cp) k (ptrs qs)∧(∀(i:Nat) (q:Nat),qs[i]? = some q→q≠p)∧∀(i:Nat) (c:RE) (q:Nat),e.parts[i]? = some c→qs[i]? = some q→fT wx q c)
  case atStart=>exact⟨0,[],none,0,by omega,rfl,rfl,H0.out.1,H0.out.2.1,H0.out.2.2,World.ownsRow_nil _ _ _ _,fun i q h=>by simp at h,fun i c q _ h=>by simp at h⟩
  case round=>
   obtain⟨k,qs,o,cp,hkg,rfl,qR,hbx,Ro,hPx,hown,hne,BP⟩:=hrel
   have HQ:=Lib.hid hne
   clear hne
   obtain⟨wo,rfl⟩:∃wo:World,wo=wr:=⟨_,rfl⟩
   have HX:=Lib.hid (And.intro hbx (And.intro Ro (And.intro hPx (And.intro hown BP))))
   have Yu:wo.cell? ⟨w.heap.size,0,none⟩=some (.int .i64 e.kind)∧wo.cell? ⟨w.heap.size,1,none⟩=some (.slice o1 e.set.length q1)∧wo.cell? ⟨w.heap.size,2,none⟩=some (.slice o2 e.parts.length q2):=by simp[World.cell?,Ro]
   have hpl:=dK hPx
   have hlen:e.parts.length≤1000:=hm1.2.2
   cases gk with
   | zero =>
    obtain rfl:k=e.parts.length:=by omega
    have hd:decide ((e.parts.length:Int)<(e.parts.length:Int))=false:=by simp
    have hlt:=fun j hj=>hown.lt j hj
    obtain⟨e0,e1,e2⟩:=Yu
    have hp2:wo.cell? ⟨p,2,none⟩=some (.slice o e.parts.length cp):=by simp[World.cell?,hPx]
    have hp3:wo.cell? ⟨p,3,none⟩=some (.bool false)∧wo.frozen? ⟨p,3,none⟩=false:=by simp[World.cell?,World.frozen?,hPx]
    obtain⟨d3,f3⟩:=hp3
    have hn1:(0:Int)≤(e.parts.length:Int):=by omega
    have hfin:∀(b:Bool) (w':World),w'.heap=wo.heap→Below w.heap.size w w'→b=e.emp→fT (w'.setCell ⟨p,3,none⟩ (.bool b)) p e∧Below w.heap.size w (w'.setCell ⟨p,3,none⟩ (.bool b)):=by
     intro b w' hw' hbw hb
     have h1:w'.heap[p]? = some (.cells #[.int .i64 e.kind,.slice o1 e.set.length q1,.slice o e.parts.length cp,.bool false,.bool false] 173 (0,0)):=by rw[hw'];exact HX.out.2.2.1
     subst hb
     exact⟨⟨_,_,Nb h1 _⟩,hbw.setCell (p:=⟨p,3,none⟩) (by simp;omega) _⟩
    have Rp:e.emp=false→fT wo p e:=fun h=>⟨_,_,by rw[h];exact HX.out.2.2.1⟩
    have tT:=Lib.hid (And.intro hfin Rp)
    have hall:=GI e.parts qs o cp (p+1) wo hown qR BP (by omega)
    have Ze:=Lib.hid hall
    have HB:=Lib.hid hbx
    have GJ:=Lib.hid (RE.M8 e)
    clear hfin Rp hall Ro hPx hown BP hbx
    by_cases k1:e.kind=1
    · have b1 : (e.kind == 1) = true := by simpa using k1
      have HE:=Lib.hid (show true=e.emp by rw[GJ.out,if_pos (.inl k1)])
      clear k1
      go_wp2_with fail
      go_ret
      exact⟨p,rfl,(tT.out.1 _ _ rfl HB.out HE.out).1,by omega,(tT.out.1 _ _ rfl HB.out HE.out).2⟩
    have b1:(e.kind == 1)=false:=by simpa using k1
    by_cases k5:e.kind=5
    · have b5 : (e.kind == 5) = true := by simpa using k5
      have HE:=Lib.hid (show true=e.emp by rw[GJ.out,if_pos (.inr k5)])
      clear k5 k1
      go_wp2_with fail
      go_ret
      exact⟨p,rfl,(tT.out.1 _ _ rfl HB.out HE.out).1,by omega,(tT.out.1 _ _ rfl HB.out HE.out).2⟩
    have b5:(e.kind == 5)=false:=by simpa using k5
    by_cases k4:e.kind=4
    · have b4 : (e.kind == 4) = true := by simpa using k4
      have HE:=Lib.hid (show RE.nC e.parts=e.emp by rw[GJ.out,if_neg (by omega),if_pos k4])
      clear k5 k1 k4
      go_wp2_with fail
      refine(Ze.out _ (Below.refl _ _)).mono ?_
      rintro x w3 ⟨rfl,rfl⟩
      go_wp2_with fail
      go_ret
      exact⟨p,rfl,(tT.out.1 _ _ rfl HB.out HE.out).1,by omega,(tT.out.1 _ _ rfl HB.out HE.out).2⟩
    have b4:(e.kind == 4)=false:=by simpa using k4
    by_cases k3:e.kind=3
    · have b3 : (e.kind == 3) = true := by simpa using k3
      have h2:=HF.out.2.three k3
      have HE:=Lib.hid (show RE.GD e.parts=e.emp by rw[GJ.out,if_neg (by omega),if_neg k4,if_pos k3])
      obtain⟨a,ha⟩:∃a,e.parts[0]? = some a:=⟨_,List.getElem?_eq_getElem (by omega)⟩
      obtain⟨a',ha'⟩:∃a,e.parts[1]? = some a:=⟨_,List.getElem?_eq_getElem (by omega)⟩
      obtain⟨qa,VZ⟩:∃a,qs[0]? = some a:=⟨_,List.getElem?_eq_getElem (by omega)⟩
      obtain⟨qb,lG⟩:∃a,qs[1]? = some a:=⟨_,List.getElem?_eq_getElem (by omega)⟩
      have hna:=HX.out.2.2.2.2 0 a qa ha VZ
      have hnb:=HX.out.2.2.2.2 1 a' qb ha' lG
      have ea:=hna.emp
      have eb:=hnb.emp
      obtain⟨g,rfl,g0,g1⟩:∃g,o=some ⟨g,0,none⟩∧wo.cell? ⟨g,0,none⟩=some (.pointer (some ⟨qa,0,none⟩))∧wo.cell? ⟨g,1,none⟩=some (.pointer (some ⟨qb,0,none⟩)):=by
       have how:=HX.out.2.2.2.1
       rcases how.2 with⟨hx,h0⟩|⟨g,cap,cur,hv,hbg,hgg,hr⟩
       · omega
       · cases hv
         refine⟨g,rfl,?_,?_⟩
         · simpa [Addr.add] using how.cells (g:=g) (by simp[Value.ownBlock]) 0 (.pointer (some ⟨qa,0,none⟩)) (by simp only[ptrs,List.getElem?_map,VZ,Option.map_some])
         · simpa [Addr.add] using how.cells (g:=g) (by simp[Value.ownBlock]) 1 (.pointer (some ⟨qb,0,none⟩)) (by simp only[ptrs,List.getElem?_map,lG,Option.map_some])
      have hl0:(0:Int)<(e.parts.length:Int):=by omega
      have hl1:(1:Int)<(e.parts.length:Int):=by omega
      have HE2:=Lib.hid (show(a.emp && a'.emp)=e.emp by
       rw[←HE.out]
       cases hp:e.parts with
       | nil=>rw[hp] at ha;cases ha
       | cons x l => cases l with
        | nil=>rw[hp] at ha';cases ha'
        | cons y l=>rw[hp] at ha ha';simp at ha ha';subst ha;subst ha';exact(RE.PG x y l).symm)
      clear hna hnb ha ha' VZ lG HE
      cases hae:a.emp with
      | false =>
       rw[hae] at ea HE2
       go_wp2_with fail
       refine(qL _ _ _ ea).mono ?_
       rintro x w3 ⟨rfl,rfl⟩
       go_wp2_with fail
       go_ret
       exact⟨p,rfl,(tT.out.1 _ _ rfl HB.out HE2.out).1,by omega,(tT.out.1 _ _ rfl HB.out HE2.out).2⟩
      | true =>
       rw[hae] at ea HE2
       go_wp2_with fail
       refine(qL _ _ _ ea).mono ?_
       rintro x w3 ⟨rfl,rfl⟩
       go_wp2_with fail
       refine(qL _ _ _ eb).mono ?_
       rintro x w3 ⟨rfl,rfl⟩
       go_wp2_with fail
       go_ret
       exact⟨p,rfl,(tT.out.1 _ _ rfl HB.out (by simpa using HE2.out)).1,by omega,(tT.out.1 _ _ rfl HB.out (by simpa using HE2.out)).2⟩
    have b3:(e.kind == 3)=false:=by simpa using k3
    have HE:=Lib.hid (show e.emp=false by rw[GJ.out,if_neg (by omega),if_neg k4,if_neg k3])
    clear k5 k1 k4 k3
    go_wp2_with fail
    go_ret
    exact⟨p,rfl,tT.out.2 HE.out,by omega,HB.out⟩
   | succ g =>
    have hk:k<e.parts.length:=by omega
    have hd:decide ((k:Int)<(e.parts.length:Int))=true:=by simp;omega
    have hk1:(0:Int)≤(k:Int):=by omega
    have hk2:(k:Int)<(e.parts.length:Int):=by omega
    have jC:(k:Int)≤1000:=by omega
    obtain⟨c,hc⟩:∃c,e.parts[k]? = some c:=⟨e.parts[k],List.getElem?_eq_getElem hk⟩
    obtain⟨hrc,b,off,rfl,hbl,k0,k1,k2⟩:=rC.out k c hc
    have GK:=ak hb0 hbx
    rw[←GK.cell hbl] at k0
    rw[←GK.cell hbl] at k1
    rw[←GK.cell hbl] at k2
    obtain⟨s1,hs1⟩:∃s1,s1=c1 k:=⟨_,rfl⟩
    obtain⟨s2,hs2⟩:∃s2,s2=c2 k:=⟨_,rfl⟩
    rw[←hs1,←hs2] at hrc
    rw[←hs1] at k1
    rw[←hs2] at k2
    obtain⟨⟨V3,V4,rfl⟩,⟨V5,V6,rfl⟩⟩:=hrc.form
    have hih:=fun w' hb=>ih c _ _ w' (by have:=RE.jT hc;omega) (HF.out.1.part hc) (HF.out.2.part hc) hrc hb
    have MU:=Lib.hid hih
    have Zf:=Lib.hid GK
    clear hih hrc hs1 hs2 GK hbx Ro hPx hown BP Yu
    go_wp2_with fail
    obtain⟨X,hX⟩:∃X,X=wo.alloc (.cells #[.int .i64 c.kind,.slice V3 c.set.length V4,.slice V5 c.parts.length V6] 35):=⟨_,rfl⟩
    obtain⟨E9,V7⟩:∃E9,E9=wo.heap.size:=⟨_,rfl⟩
    have hbX:Below wo.heap.size wo X:=by rw[hX];exact ah (Below.refl _ _) _
    have Nc:=aB hbX HX.out.2.2.1
    have Yv:X.heap[E9]? = some (.cells #[.int .i64 c.kind,.slice V3 c.set.length V4,.slice V5 c.parts.length V6] 35 (0,0)):=by rw[hX,V7];exact heap_alloc_new wo _
    have hXz:X.heap.size=wo.heap.size+1:=by rw[hX];simp
    rw[←hX,←V7]
    have La:X.ownsRow (p+1) 174 1 (.slice o k cp) k (ptrs qs):=by rw[hX];exact HX.out.2.2.2.1.alloc _
    have hp2:X.cell? ⟨p,2,none⟩=some (.slice o k cp):=by simp[World.cell?,Nc]
    have hpf:X.frozen? ⟨p,2,none⟩=false:=by simp[World.frozen?,Nc]
    have he0:X.cell? ⟨E9,0,none⟩=some (.int .i64 c.kind)∧X.cell? ⟨E9,1,none⟩=some (.slice V3 c.set.length V4)∧X.cell? ⟨E9,2,none⟩=some (.slice V5 c.parts.length V6):=by simp[World.cell?,Yv]
    obtain⟨e0,e1,e2⟩:=he0
    have hpX:p<X.heap.size:=dK Nc
    have V8:=ak Zf.out hbX
    have abp:¬E9=p:=by omega
    have hnp:some p≠(Value.slice o k cp).ownBlock:=fun h=>by have:=HX.out.2.2.2.1.lt p h.symm;omega
    have HPX:=Lib.hid Nc
    have HEW:=Lib.hid (aB hbX HX.out.2.1)
    have FV:=Lib.hid (show ∀(i:Nat) (c:RE) (q:Nat),e.parts[i]? = some c→qs[i]? = some q→fT X q c from fun i c q h1 h2=>(HX.out.2.2.2.2 i c q h1 h2).moved hbX)
    clear hX V7 Nc Yv k0 k1 k2
    have aaD:w0.heap.size≤X.heap.size:=V8.size
    have V9:Below w.heap.size w X:=ak HX.out.1 hbX
    have Zg:=Lib.hid V9
    clear hbX V9
    go_region_law
     (first
      | (go_simp;go_at_call 130;refine(MU.out _ (by exact V8.drew)).mono ?_;rintro x w3 ⟨q,rfl,rG,hq3,hb3⟩;have hB3:Below X.heap.size X w3:=ak (by exact(Below.refl _ _).drew) hb3;have q0:w3.cell? ⟨p,2,none⟩=some (.slice o k cp):=cell_later hB3 hp2;have q9:p<w3.heap.size:=Nat.lt_of_lt_of_le hpX hB3.size;have q8:¬p=w3.heap.size:=by omega)
      | (refine uH _ rfl _ _ 171 rfl (p+1) 174 ii _ 1 8 Tryz.underlying171 hi hz0 hz1 hz2 rfl (by decide) (.slice o k cp) k (ptrs qs) rfl ((bS La hB3).alloc _) _ 1 [.pointer (some ⟨q,0,none⟩)] rfl (Tj _ _ _ w3.heap.size rfl) rfl (by simp[Value.oneCell']) (by unfold maxLen;omega) (by omega) (by have:=hB3.size;simp;omega) ?_;intro v6 w6 hown6 Ng;obtain⟨o6,c6,rfl⟩:=au hown6;have g6:w6.heap[p]? = some (.cells #[.int .i64 e.kind,.slice o1 e.set.length q1,.slice o k cp,.bool false,.bool false] 173 (0,0)):=(Ng.block p (by have:=hB3.size;simp;omega) hnp).trans ((Below.heap_alloc _ _ _ (by have:=hB3.size;omega)).trans (aB hB3 HPX.out));obtain⟨d2,f2⟩:=K9 g6))
    all_goals (
     obtain⟨w7,hw7⟩:∃w7,w7=w6.setCell ⟨p,2,none⟩ (.slice o6 (k+1) c6):=⟨_,rfl⟩
     rw[←hw7]
     have G:=Lib.hid (show ∃(k':Nat) (J7:List Nat) (o':Option Addr) (cp':Nat),k'+g=e.parts.length∧(Value.int .i64 (k+1:Nat))=.int .i64 k'∧J7.length=k'∧Below w.heap.size w w7∧w7.heap[w.heap.size]? = some (.cells #[.int .i64 e.kind,.slice o1 e.set.length q1,.slice (some ⟨b,off,none⟩) e.parts.length q2] 35 (0,0)) ∧
      w7.heap[p]? = some (.cells #[.int .i64 e.kind,.slice o1 e.set.length q1,.slice o' k' cp',.bool false,.bool false] 173 (0,0))∧w7.ownsRow (p+1) 174 1 (.slice o' k' cp') k' (ptrs J7)∧(∀(i:Nat) (q:Nat),J7[i]? = some q→q≠p)∧∀(i:Nat) (c:RE) (q:Nat),e.parts[i]? = some c→J7[i]? = some q→fT w7 q c from by
       have hA:Below X.heap.size X (w3.alloc (.cells #[.pointer (some ⟨q,0,none⟩)] 174)):=ah hB3 _
       have hlt:=fun j hj=>La.lt j hj
       have h6:Below w.heap.size w w6:=uG (ak Zg.out hA) Ng (fun j hj=>by have:=(hlt j hj).1;omega)
       have Wh:∀j,j≠p→w7.heap[j]? = w6.heap[j]?:=fun j hj=>by rw[hw7];exact Below.heap_setCell w6 _ _ j hj
       have Zh:some p≠(Value.slice o6 (k+1) c6).ownBlock:=fun h=>by have:=hown6.lt p h.symm;omega
       have Yw:∀(i:Nat) (q':Nat),(qs++[q])[i]? = some q'→q'≠p:=by
        intro i q' hq' h
        rcases Nat.lt_or_ge i k with hik|hik
        · rw [List.getElem?_append_left (by omega)] at hq'
          exact HQ.out i q' hq' h
        · have hi2 : i = k := by
           have:=(List.getElem?_eq_some_iff.1 hq').1
           simp at this;omega
          subst hi2
          rw[List.getElem?_append_right (by omega),qR,Nat.sub_self] at hq'
          simp at hq'
          have:=hq3
          simp at this
          omega
       refine⟨k+1,qs++[q],o6,c6,by omega,rfl,by simp[qR],?_,?_,?_,?_,Yw,?_⟩
       · rw[hw7];exact h6.setCell (by simp;omega) _
       · rw [Wh _ (by omega), Ng.block _ (by have := hA.size; omega) (fun h => by have := hlt _ h.symm; omega), hA.block _ (by omega)]
         exact HEW.out
       · rw[hw7];exact Na g6 _
       · have := GH hown6 Zh Wh
         simpa [ptrs] using this
       · intro i c' q' hc' hq'
         have hq0:=hq'
         have Wi:fT (w3.alloc (.cells #[.pointer (some ⟨q,0,none⟩)] 174)) q' c':=by
          rcases Nat.lt_or_ge i k with hik|hik
          · rw [List.getElem?_append_left (by omega)] at hq'
            exact(FV.out i c' q' hc' hq').moved hA
          · have hi2 : i = k := by
             have:=(List.getElem?_eq_some_iff.1 hq').1
             simp at this;omega
            subst hi2
            rw[List.getElem?_append_right (by omega),qR,Nat.sub_self] at hq'
            simp at hq'
            subst hq'
            rw[hc] at hc'
            cases hc'
            exact rG.moved (ah (Below.refl _ _) _)
         have hoA:(w3.alloc (.cells #[.pointer (some ⟨q,0,none⟩)] 174)).ownsRow (p+1) 174 1 (.slice o k cp) k (ptrs qs):=bS La hA
         exact Wi.same ((Wh q' (Yw i q' hq0)).trans (Ng.block q' Wi.lt (PL Wi hoA))))
     clear hw7 hown6 Ng g6 rG d2 f2 q0 hB3 hb3 q8
     go_wp2
     go_roundg g
     case measure=>omega
     case rel=>
      obtain⟨k',J7,o',cp',h1,h2,h3⟩:=G.out
      exact⟨k',J7,o',cp',h1,by rw[←h2];go_num,h3⟩)
theorem I7 (e:RE) (sv lv:Value) (w:World) (h:bI w e sv lv) (hf:e.Fit) :
 Calls Tryz.prog 100 #[.agg #[.int .i64 e.kind,sv,lv]] w fun x w'=>x=.returned (.bool (e.may && e.emp))∧Below w.heap.size w w':=by
 obtain⟨⟨o1,q1,rfl⟩,⟨o2,q2,rfl⟩⟩:=h.form
 have hm:=fun w' (hb:Below w.heap.size w w')=>Eb e _ _ w' (h.moved hb) hf
 have hk:=fun w' (hm:e.may=true) (hb:Below w.heap.size w w')=>PN w e.size e _ _ w' (Nat.le_refl _) hf (RE.VY hm) h hb
 have HM:=Lib.hid hm
 have HK:=Lib.hid hk
 clear hm hk h hf
 go_enter Tryz.func100,Tryz.ntmps100
 go_wp2_with fail
 refine(HM.out _ (by repeat (first|exact Below.refl _ _|exact ah (Below.refl _ _) _))).mono ?_
 rintro x w2 ⟨rfl,hb2'⟩
 have hb2:Below w.heap.size w w2:=ak (by repeat (first|exact Below.refl _ _|exact ah (Below.refl _ _) _)) hb2'
 have c0:w2.cell? ⟨w.heap.size,0,none⟩=some (.int .i64 e.kind):=cell_later hb2' (by simp[go_sem])
 have c1:w2.cell? ⟨w.heap.size,1,none⟩=some (.slice o1 e.set.length q1):=cell_later hb2' (by simp[go_sem])
 have c2:w2.cell? ⟨w.heap.size,2,none⟩=some (.slice o2 e.parts.length q2):=cell_later hb2' (by simp[go_sem])
 clear hb2'
 cases hmay:e.may with
 | false =>
  have hB:=Lib.hid hb2
  clear hb2
  go_wp2_with fail
  go_ret
  exact⟨by simp[hmay],hB.out⟩
 | true =>
  go_wp2_with fail
  refine(HK.out _ hmay (by assumption)).mono ?_
  rintro x w3 ⟨q,rfl,rG,hq3,hb3⟩
  have d3:=rG.emp
  have hB:=Lib.hid (ak hb2 hb3)
  clear hb2 hb3
  go_wp2_with fail
  go_ret
  exact⟨by simp[hmay],hB.out⟩
end Go.Proofs.YtfkmajjgkdjncaaGreatDoor
