/- Merged. -/
import Derived.Test.YtfkmajjgkdjncaaGreatDoorGTok
set_option linter.unusedVariables false
set_option linter.unusedSimpArgs false
set_option maxHeartbeats 8000000
set_option maxRecDepth 100000
namespace Go.Proofs.YtfkmajjgkdjncaaGreatDoor
open Go.RowKit Ru
def rM (a b:Option Int):Option Int:=match a with|some c=>some c|none=>b
def Q9 (T:List TK) (k:Int) (ns es:List ByteArray):Option Int:=if k=2 then fC T 0 [] ns else if k=3 then rM (fC T 1 [] ns) (fC T 2 [] es) else none
mutual
def pO (T:List TK):PT→Option Int
 | .mk k ns es l=>if (PT.mk k ns es l).iN=false then some 5 else rM (Q9 T k ns es) (iE T l)
def iE (T:List TK):List PT→Option Int
 | []=>none
 | p::l=>rM (pO T p) (iE T l)
end
theorem Ti (T:List TK) (p:PT):pO T p=if p.iN=false then some 5 else rM (Q9 T p.kind p.names p.ends) (iE T p.parts):=by cases p;rw[pO];rfl
theorem yx (T:List TK):iE T []=none:=by rw[iE]
theorem wO (T:List TK) (p:PT) (l:List PT):iE T (p::l)=rM (pO T p) (iE T l):=by rw[iE]
structure Dg (w0:World) (T:List TK) (tv rv:Value) (a:Int) (q:Nat):Prop where
 hT:iO w0 tv T
 iH:T.length≤1000
 p8:∃o n c,rv=.slice o n c
 hq:w0.heap[q]? = some (.cells #[.int .i64 a] 3 (0,0))
theorem Dg.moved {w0 w:World} {T:List TK} {tv rv:Value} {a:Int} {q:Nat} (h:Dg w0 T tv rv a q) (hb:Below w0.heap.size w0 w):Dg w T tv rv a q:=⟨h.hT.moved hb,h.iH,h.p8,aB hb h.hq⟩
theorem wP {w:World} {T:List TK} {tv rv:Value} {a:Int} {q:Nat} (h:Dg w T tv rv a q) (l:List ByteArray) (nv:Value) (kind:Int) (hn:Row w nv l.length (strs l)) (hl:l.length≤1000) :
 Calls Tryz.prog 101 #[tQ tv rv q,nv,.int .i64 kind] w (bH (fC T kind [] l) a w):=KW T l tv rv nv kind a q w h.hT h.iH h.p8 hn hl h.hq
def Vi (w0:World) (T:List TK) (tv rv:Value) (a:Int) (q:Nat) (N:Nat):Prop:=∀(p:PT) (nv ev lv:Value) (w:World),p.size≤N→p.Fit→bU w p nv ev lv→Below w0.heap.size w0 w →
 Calls Tryz.prog 103 #[tQ tv rv q,.agg #[.int .i64 p.kind,nv,ev,lv]] w (bH (pO T p) a w)
theorem Ph (w0:World) (T:List TK) (tv rv:Value) (a:Int) (q:Nat) (E:Dg w0 T tv rv a q):∀N,Vi w0 T tv rv a q N:=by
 intro N
 induction N with
 | zero=>intro p nv ev lv w hs;have:=p.size_pos;omega
 | succ N ih =>
  intro p nv ev lv w hs hf hr hb0
  obtain⟨⟨o1,q1,rfl⟩,⟨o3,q3,rfl⟩,-⟩:=hr.form
  obtain⟨o2,q2,kf,no,nn,nc,eo,en,ec,lo,ln,lc,rfl,hall⟩:=hr.Vj
  have hm1:=hf.lens
  have hE:=E.moved hb0
  obtain⟨o7,c7,Vk,Vl,Vm,Vn,Vo,Vp,Vq,Vr,Vs,Vt,rfl,-⟩:=hE.hT.all
  obtain⟨o9,n9,c9,rfl⟩:=hE.p8
  obtain⟨P,hP⟩:∃P,P=pO T p:=⟨_,rfl⟩
  obtain⟨k,hk⟩:∃k,k=p.kind:=⟨_,rfl⟩
  obtain⟨ns,hns⟩:∃k,k=p.names:=⟨_,rfl⟩
  obtain⟨es,hes⟩:∃k,k=p.ends:=⟨_,rfl⟩
  obtain⟨ps,hps⟩:∃k,k=p.parts:=⟨_,rfl⟩
  obtain⟨b1,hb1⟩:∃k,k=p.iN:=⟨_,rfl⟩
  obtain⟨r1,hr1⟩:∃k,k=fC T 0 [] ns:=⟨_,rfl⟩
  obtain⟨r2,hr2⟩:∃k,k=fC T 1 [] ns:=⟨_,rfl⟩
  obtain⟨r3,hr3⟩:∃k,k=fC T 2 [] es:=⟨_,rfl⟩
  have MS:P=if b1=false then some 5 else rM (if k=2 then r1 else if k=3 then rM r2 r3 else none) (iE T ps):=by
   rw[hP,Ti,hb1,hk,hps,hr1,hr2,hr3,hns,hes];rfl
  have dS:=fun w' (hb:Below w.heap.size w w')=>Dh p _ _ _ w' (hr.moved hb) hf
  have hn0:=fun (kind:Int) w' (hb:Below w.heap.size w w')=>wP (hE.moved hb) p.names _ kind (hr.names.below hb) hm1.1
  have hn1:=fun (kind:Int) w' (hb:Below w.heap.size w w')=>wP (hE.moved hb) p.ends _ kind (hr.ends.below hb) hm1.2.1
  have hih : ∀ (j : Nat) (e : PT) (w' : World), ps[j]? = some e → Below w.heap.size w w' → Calls Tryz.prog 103 #[tQ (.slice o7 T.length c7) (.slice o9 n9 c9) q, .agg #[.int .i64 (kf j), .slice (no j) (nn j) (nc j), .slice (eo j) (en j) (ec j), .slice (lo j) (ln j) (lc j)]] w' (bH (pO T e) a w') := fun j e w' he hb => by
   rw[hps] at he
   have h:=hall j e he
   rw[h.1]
   exact ih e _ _ _ w' (by have:=PT.jT he;omega) (hf.part he) (h.2.1.moved hb) (ak hb0 hb)
  have hcell : ∀ (j : Nat) (e : PT), ps[j]? = some e → ∃ b off, o2 = some ⟨b, off, none⟩ ∧ b < w.heap.size ∧ w.cell? ⟨b, off + j * 4, none⟩ = some (.int .i64 (kf j)) ∧ w.cell? ⟨b, off + j * 4 + 1, none⟩ = some (.slice (no j) (nn j) (nc j)) ∧ w.cell? ⟨b, off + j * 4 + 2, none⟩ = some (.slice (eo j) (en j) (ec j)) ∧ w.cell? ⟨b, off + j * 4 + 3, none⟩ = some (.slice (lo j) (ln j) (lc j)) := fun j e he => by
   rw[hps] at he
   exact(hall j e he).2.2
  have hpl:ps.length≤1000:=by rw[hps];exact hm1.2.2
  rw[←hP,←hk]
  rw[←hk] at dS
  rw[←hb1] at dS
  rw[←hns] at dS hn0 ⊢
  rw[←hes] at dS hn1 ⊢
  rw[←hps] at dS ⊢
  have hc0:=hn0 0
  have hc1:=hn0 1
  have hc2:=hn1 2
  rw[←hr1] at hc0
  rw[←hr2] at hc1
  rw[←hr3] at hc2
  have Vu:=Lib.hid dS
  have xu:=Lib.hid hc0
  have Dx:=Lib.hid hc1
  have xk:=Lib.hid hc2
  have MU:=Lib.hid hih
  have zm:=Lib.hid hcell
  have qV:=Lib.hid MS
  have HQ:=Lib.hid hE.hq
  clear dS hc0 hc1 hc2 hn0 hn1 hih hcell MS hP hk hns hes hps hb1 hr1 hr2 hr3 hall hr hf hs hm1 hb0 hE E ih
  clear p
  go_enter Tryz.func103,Tryz.ntmps103
  go_wp2_with fail
  obtain⟨W,hW⟩:∃W,W=(w.alloc (.cells #[.slice o7 T.length c7,.slice o9 n9 c9,eY q] 119)).alloc (.cells #[.int .i64 k,.slice o1 ns.length q1,.slice o3 es.length q3,.slice o2 ps.length q2] 58):=⟨_,rfl⟩
  have hbW:Below w.heap.size w W:=by rw[hW];exact ah (ah (Below.refl _ _) _) _
  have hB0:W.heap[w.heap.size]? = some (.cells #[.slice o7 T.length c7,.slice o9 n9 c9,eY q] 119 (0,0)):=by
   rw[hW];exact aB (ah (Below.refl _ _) _) (heap_alloc_new w _)
  have hB1:W.heap[w.heap.size+1]? = some (.cells #[.int .i64 k,.slice o1 ns.length q1,.slice o3 es.length q3,.slice o2 ps.length q2] 58 (0,0)):=by
   rw[hW]
   have:=heap_alloc_new (w.alloc (.cells #[.slice o7 T.length c7,.slice o9 n9 c9,eY q] 119)) (.cells #[.int .i64 k,.slice o1 ns.length q1,.slice o3 es.length q3,.slice o2 ps.length q2] 58)
   simpa using this
  unfold eY at hW
  rw[←hW]
  have BW:=Lib.hid hbW
  obtain⟨ι,K,hne,hkb,hks⟩:=nJ W
  have KB:=Lib.hid hkb
  have KS:=Lib.hid hks
  have kc : ∀ i, (K i).cell? ⟨w.heap.size, 0, none⟩ = some (.slice o7 T.length c7) ∧ (K i).cell? ⟨w.heap.size, 1, none⟩ = some (.slice o9 n9 c9) ∧ (K i).cell? ⟨w.heap.size, 2, none⟩ = some (.func (Fn.func 60) #[] #[.pointer (some ⟨q, 0, none⟩)]) := fun i => by
   have:=aB (hkb i) hB0
   simp[World.cell?,this]
  have kt : ∀ i, (K i).cell? ⟨w.heap.size + 1, 0, none⟩ = some (.int .i64 k) ∧ (K i).cell? ⟨w.heap.size + 1, 1, none⟩ = some (.slice o1 ns.length q1) ∧ (K i).cell? ⟨w.heap.size + 1, 2, none⟩ = some (.slice o3 es.length q3) ∧ (K i).cell? ⟨w.heap.size + 1, 3, none⟩ = some (.slice o2 ps.length q2) := fun i => by
   have:=aB (hkb i) hB1
   simp[World.cell?,this]
  have k0:=fun i=>(kc i).1
  have k1:=fun i=>(kc i).2.1
  have k2:=fun i=>(kc i).2.2
  have k3:=fun i=>(kt i).1
  have k4:=fun i=>(kt i).2.1
  have k5:=fun i=>(kt i).2.2.1
  have k6:=fun i=>(kt i).2.2.2
  have hcs:∀i,Calls Tryz.prog 135 #[.agg #[.int .i64 k,.slice o1 ns.length q1,.slice o3 es.length q3,.slice o2 ps.length q2]] (K i) fun e w''=>e=.returned (.bool b1)∧∃j,w''=K j:=fun i=>mY hkb hks (Vu.out (K i) (ak hbW (hkb i)))
  have hc0:∀i,Calls Tryz.prog 101 #[tQ (.slice o7 T.length c7) (.slice o9 n9 c9) q,.slice o1 ns.length q1,.int .i64 0] (K i) (bH r1 a (K i)):=fun i=>xu.out (K i) (ak hbW (hkb i))
  have hc1:∀i,Calls Tryz.prog 101 #[tQ (.slice o7 T.length c7) (.slice o9 n9 c9) q,.slice o1 ns.length q1,.int .i64 1] (K i) (bH r2 a (K i)):=fun i=>Dx.out (K i) (ak hbW (hkb i))
  have hc2:∀i,Calls Tryz.prog 101 #[tQ (.slice o7 T.length c7) (.slice o9 n9 c9) q,.slice o3 es.length q3,.int .i64 2] (K i) (bH r3 a (K i)):=fun i=>xk.out (K i) (ak hbW (hkb i))
  have Gq:=Lib.hid hcs
  have HD0:=Lib.hid hc0
  have HD1:=Lib.hid hc1
  have HD2:=Lib.hid hc2
  have kS:=hks _ (Below.refl W.heap.size W).drew
  clear hcs hc0 hc1 hc2 xu Dx xk Vu hW hbW hB0 hB1 hkb hks kc kt
  cases b1 with
  | false =>
   refine dJ K 4 (by kernel_rfl) (by kernel_rfl) kS ?_
   simp only[List.take_succ_cons,List.take_zero,List.drop_succ_cons,List.drop_zero]
   repeat (go_big_quiet_step (exact Gq.out _))
   refine wpQuiet_nil ?_
   rintro _ ⟨iw,rfl⟩
   have HB:=Lib.hid (ak BW.out (KB.out iw))
   have HR:=Lib.hid (show some 5=P by rw[qV.out];rfl)
   go_wp2_with fail
   refine(gH q 5 a _ (aB HB.out HQ.out)).mono ?_
   rintro e w3 ⟨rfl,rfl⟩
   go_wp2_with fail
   refine⟨rfl,?_⟩
   unfold bH
   rw[←HR.out]
   exact⟨rfl,HB.out⟩
  | true =>
   have D5:=Lib.hid (show P=rM (if k=2 then r1 else if k=3 then rM r2 r3 else none) (iE T ps) by rw[qV.out];rfl)
   clear qV
   refine(show ∀_:True,_ from fun _=>?_) trivial
   refine dJ K 4 (by kernel_rfl) (by kernel_rfl) kS ?_
   simp only[List.take_succ_cons,List.take_zero,List.drop_succ_cons,List.drop_zero]
   repeat (go_big_quiet_step (exact Gq.out _))
   refine wpQuiet_nil ?_
   rintro _ ⟨iw,rfl⟩
   have HB:=Lib.hid (ak BW.out (KB.out iw))
   go_wp2_with fail
   refine(jL q 5 _).mono ?_
   rintro e w3 ⟨rfl,rfl⟩
   have hkd:((k == 2)=true∧P=rM r1 (iE T ps))∨((k == 2)=false∧(k == 3)=true∧P=rM (rM r2 r3) (iE T ps))∨((k == 2)=false∧(k == 3)=false∧P=iE T ps):=by
    have h:=D5.out
    by_cases h2:k=2
    · rw[if_pos h2] at h;exact .inl ⟨by simp[h2],h⟩
    · rw [if_neg h2] at h
      by_cases h3:k=3
      · rw[if_pos h3] at h;exact .inr (.inl ⟨by simp[h2],by simp[h3],h⟩)
      · rw[if_neg h3] at h;exact .inr (.inr ⟨by simp[h2],by simp[h3],h⟩)
   clear D5
   rcases hkd with⟨d2,hp⟩|⟨d2,d3,hp⟩|⟨d2,d3,hp⟩
   · have d3 : (k == 3) = false := by have : k = 2 := by simpa using d2
                                      simp[this]
     have hl1:∀cd,r1=some cd→some cd=P:=fun cd h=>by rw[hp,h];rfl
     have hl0:r1=none→P=iE T ps:=fun h=>by rw[hp,h];rfl
     have Gr:=Lib.hid hl1
     have Gs:=Lib.hid hl0
     clear hl1 hl0 hp
     go_wp2_with fail
     refine(HD0.out iw).mono ?_
     intro e w3 hg
     unfold bH at hg
     cases r1 with
     | some cd =>
      obtain⟨rfl,hb⟩:=hg
      have HB3:=Lib.hid (ak HB.out hb)
      clear hb
      have HR:=Lib.hid (Gr.out cd rfl)
      go_wp2_with fail
      refine⟨rfl,?_⟩
      unfold bH
      rw[←HR.out]
      exact⟨rfl,HB3.out⟩
     | none =>
      obtain⟨rfl,hb⟩:=hg
      clear HB
      obtain⟨iw,rfl⟩:=KS.out _ (ak (KB.out iw) hb)
      have HB:=Lib.hid (ak BW.out (KB.out iw))
      clear hb
      have HL:=Lib.hid (Gs.out (by first|exact trivial|rfl))
      clear Gs Gr
      go_wp2_with fail
      clear HB
      go_loopg [32] ps.length (fun g s wx=>∃(kk:Nat) (j:ι),kk+g=ps.length∧s=.int .i64 kk∧wx=K j∧P=iE T (ps.drop kk))
      case atStart=>exact⟨0,_,by omega,rfl,rfl,HL.out⟩
      case round=>
       obtain⟨kk,j,hkg,rfl,rfl,hpp⟩:=hrel
       cases gk with
       | zero =>
        obtain rfl:kk=ps.length:=by omega
        have hd:decide ((ps.length:Int)<(ps.length:Int))=false:=by simp
        rw[List.drop_length,yx] at hpp
        have HX:=Lib.hid hpp
        clear hpp
        have HB:=Lib.hid (ak BW.out (KB.out j))
        go_wp2_with fail
        refine bodyPost_end (results_none rfl _ _ _) rfl ?_
        unfold bH
        rw[HX.out]
        exact⟨rfl,HB.out⟩
       | succ g =>
        have hk:kk<ps.length:=by omega
        have hd:decide ((kk:Int)<(ps.length:Int))=true:=by simp;omega
        have hk1:(0:Int)≤(kk:Int):=by omega
        have hk2:(kk:Int)<(ps.length:Int):=by omega
        have jC:(kk:Int)≤1000:=by omega
        obtain⟨e,he⟩:∃e,ps[kk]? = some e:=⟨_,List.getElem?_eq_getElem hk⟩
        have hxe:ps[kk]=e:=by rw[List.getElem?_eq_getElem hk] at he;exact Option.some.inj he
        rw[List.drop_eq_getElem_cons hk,hxe,wO] at hpp
        obtain⟨b,off,rfl,hlt,g0,g1,g2,g3⟩:=zm.out kk e he
        have m0:(K j).cell? ⟨b,off+kk*4,none⟩=some (.int .i64 (kf kk)):=((ak BW.out (KB.out j)).cell hlt).trans g0
        have m1:(K j).cell? ⟨b,off+kk*4+1,none⟩=some (.slice (no kk) (nn kk) (nc kk)):=((ak BW.out (KB.out j)).cell hlt).trans g1
        have m2:(K j).cell? ⟨b,off+kk*4+2,none⟩=some (.slice (eo kk) (en kk) (ec kk)):=((ak BW.out (KB.out j)).cell hlt).trans g2
        have m3:(K j).cell? ⟨b,off+kk*4+3,none⟩=some (.slice (lo kk) (ln kk) (lc kk)):=((ak BW.out (KB.out j)).cell hlt).trans g3
        obtain⟨r,hr⟩:∃r,r=pO T e:=⟨_,rfl⟩
        have hcall:=fun w' (hb:Below w.heap.size w w')=>MU.out kk e w' he hb
        rw[←hr] at hcall hpp
        obtain⟨f0,hf0⟩:∃d,d=kf kk:=⟨_,rfl⟩
        obtain⟨f1,hf1⟩:∃d,d=no kk:=⟨_,rfl⟩
        obtain⟨f2,hf2⟩:∃d,d=nn kk:=⟨_,rfl⟩
        obtain⟨f3,hf3⟩:∃d,d=nc kk:=⟨_,rfl⟩
        obtain⟨f4,D6⟩:∃d,d=eo kk:=⟨_,rfl⟩
        obtain⟨f5,rO⟩:∃d,d=en kk:=⟨_,rfl⟩
        obtain⟨f6,D7⟩:∃d,d=ec kk:=⟨_,rfl⟩
        obtain⟨f7,D8⟩:∃d,d=lo kk:=⟨_,rfl⟩
        obtain⟨f8,D9⟩:∃d,d=ln kk:=⟨_,rfl⟩
        obtain⟨f9,dP⟩:∃d,d=lc kk:=⟨_,rfl⟩
        rw[←hf0] at m0 hcall
        rw[←hf1,←hf2,←hf3] at m1 hcall
        rw[←D6,←rO,←D7] at m2 hcall
        rw[←D8,←D9,←dP] at m3 hcall
        have z0:w.heap.size<(K j).heap.size:=by
         have h:=k0 j
         simp only[World.cell?] at h
         by_cases hh:w.heap.size<(K j).heap.size
         · exact hh
         · rw[Array.getElem?_eq_none (by omega)] at h;simp at h
        have z1:¬w.heap.size=(K j).heap.size:=by omega
        have rU:=Lib.hid hcall
        have gq:=Lib.hid hpp
        have HB:=Lib.hid (ak BW.out (KB.out j))
        clear hf0 hf1 hf2 hf3 D6 rO D7 D8 D9 dP hcall hpp hr he hxe g0 g1 g2 g3
        go_wp2_with fail
        refine(rU.out _ (ah HB.out _)).mono ?_
        intro e w3 hg
        unfold bH at hg
        cases r with
        | some cd =>
         obtain⟨rfl,hb⟩:=hg
         have HB3:=Lib.hid (ak (ah HB.out _) hb)
         clear hb
         have HR:=Lib.hid (show some cd=P by rw[gq.out];rfl)
         go_wp2_with fail
         refine⟨rfl,?_⟩
         unfold bH
         rw[←HR.out]
         exact⟨rfl,HB3.out⟩
        | none =>
         obtain⟨rfl,hb⟩:=hg
         obtain⟨j2,hj2⟩:=KS.out _ (ak (ah (KB.out j) _) hb)
         have HR:=Lib.hid (show P=iE T (ps.drop (kk+1)) by rw[gq.out];rfl)
         subst hj2
         clear hb
         go_wp2_with fail
         go_roundg g
         case measure=>omega
         case rel=>exact⟨kk+1,j2,by omega,by go_num,rfl,HR.out⟩
   · have hl1 : ∀ cd, r2 = some cd → some cd = P := fun cd h => by rw [hp, h]; rfl
     have hl2:∀cd,r3=some cd→r2=none→some cd=P:=fun cd h h2=>by rw[hp,h,h2];rfl
     have hl0:r2=none→r3=none→P=iE T ps:=fun h h2=>by rw[hp,h,h2];rfl
     have Gr:=Lib.hid hl1
     have HL2:=Lib.hid hl2
     have Gs:=Lib.hid hl0
     clear hl1 hl2 hl0 hp
     go_wp2_with fail
     refine(HD1.out iw).mono ?_
     intro e w3 hg
     unfold bH at hg
     cases r2 with
     | some cd =>
      obtain⟨rfl,hb⟩:=hg
      have HB3:=Lib.hid (ak HB.out hb)
      clear hb
      have HR:=Lib.hid (Gr.out cd rfl)
      go_wp2_with fail
      refine⟨rfl,?_⟩
      unfold bH
      rw[←HR.out]
      exact⟨rfl,HB3.out⟩
     | none =>
      obtain⟨rfl,hb⟩:=hg
      clear HB
      obtain⟨iw,rfl⟩:=KS.out _ (ak (KB.out iw) hb)
      have HB:=Lib.hid (ak BW.out (KB.out iw))
      clear hb
      go_wp2_with fail
      refine(HD2.out iw).mono ?_
      intro e w3 hg
      unfold bH at hg
      cases r3 with
      | some cd =>
       obtain⟨rfl,hb⟩:=hg
       have HB3:=Lib.hid (ak HB.out hb)
       clear hb
       have HR:=Lib.hid ((fun cd h=>HL2.out cd h (by first|exact trivial|rfl)) cd rfl)
       go_wp2_with fail
       refine⟨rfl,?_⟩
       unfold bH
       rw[←HR.out]
       exact⟨rfl,HB3.out⟩
      | none =>
       obtain⟨rfl,hb⟩:=hg
       clear HB
       obtain⟨iw,rfl⟩:=KS.out _ (ak (KB.out iw) hb)
       have HB:=Lib.hid (ak BW.out (KB.out iw))
       clear hb
       have HL:=Lib.hid (Gs.out (by first|exact trivial|rfl) (by first|exact trivial|rfl))
       clear Gs Gr HL2
       go_wp2_with fail
       clear HB
       go_loopg [32] ps.length (fun g s wx=>∃(kk:Nat) (j:ι),kk+g=ps.length∧s=.int .i64 kk∧wx=K j∧P=iE T (ps.drop kk))
       case atStart=>exact⟨0,_,by omega,rfl,rfl,HL.out⟩
       case round=>
        obtain⟨kk,j,hkg,rfl,rfl,hpp⟩:=hrel
        cases gk with
        | zero =>
         obtain rfl:kk=ps.length:=by omega
         have hd:decide ((ps.length:Int)<(ps.length:Int))=false:=by simp
         rw[List.drop_length,yx] at hpp
         have HX:=Lib.hid hpp
         clear hpp
         have HB:=Lib.hid (ak BW.out (KB.out j))
         go_wp2_with fail
         refine bodyPost_end (results_none rfl _ _ _) rfl ?_
         unfold bH
         rw[HX.out]
         exact⟨rfl,HB.out⟩
        | succ g =>
         have hk:kk<ps.length:=by omega
         have hd:decide ((kk:Int)<(ps.length:Int))=true:=by simp;omega
         have hk1:(0:Int)≤(kk:Int):=by omega
         have hk2:(kk:Int)<(ps.length:Int):=by omega
         have jC:(kk:Int)≤1000:=by omega
         obtain⟨e,he⟩:∃e,ps[kk]? = some e:=⟨_,List.getElem?_eq_getElem hk⟩
         have hxe:ps[kk]=e:=by rw[List.getElem?_eq_getElem hk] at he;exact Option.some.inj he
         rw[List.drop_eq_getElem_cons hk,hxe,wO] at hpp
         obtain⟨b,off,rfl,hlt,g0,g1,g2,g3⟩:=zm.out kk e he
         have m0:(K j).cell? ⟨b,off+kk*4,none⟩=some (.int .i64 (kf kk)):=((ak BW.out (KB.out j)).cell hlt).trans g0
         have m1:(K j).cell? ⟨b,off+kk*4+1,none⟩=some (.slice (no kk) (nn kk) (nc kk)):=((ak BW.out (KB.out j)).cell hlt).trans g1
         have m2:(K j).cell? ⟨b,off+kk*4+2,none⟩=some (.slice (eo kk) (en kk) (ec kk)):=((ak BW.out (KB.out j)).cell hlt).trans g2
         have m3:(K j).cell? ⟨b,off+kk*4+3,none⟩=some (.slice (lo kk) (ln kk) (lc kk)):=((ak BW.out (KB.out j)).cell hlt).trans g3
         obtain⟨r,hr⟩:∃r,r=pO T e:=⟨_,rfl⟩
         have hcall:=fun w' (hb:Below w.heap.size w w')=>MU.out kk e w' he hb
         rw[←hr] at hcall hpp
         obtain⟨f0,hf0⟩:∃d,d=kf kk:=⟨_,rfl⟩
         obtain⟨f1,hf1⟩:∃d,d=no kk:=⟨_,rfl⟩
         obtain⟨f2,hf2⟩:∃d,d=nn kk:=⟨_,rfl⟩
         obtain⟨f3,hf3⟩:∃d,d=nc kk:=⟨_,rfl⟩
         obtain⟨f4,D6⟩:∃d,d=eo kk:=⟨_,rfl⟩
         obtain⟨f5,rO⟩:∃d,d=en kk:=⟨_,rfl⟩
         obtain⟨f6,D7⟩:∃d,d=ec kk:=⟨_,rfl⟩
         obtain⟨f7,D8⟩:∃d,d=lo kk:=⟨_,rfl⟩
         obtain⟨f8,D9⟩:∃d,d=ln kk:=⟨_,rfl⟩
         obtain⟨f9,dP⟩:∃d,d=lc kk:=⟨_,rfl⟩
         rw[←hf0] at m0 hcall
         rw[←hf1,←hf2,←hf3] at m1 hcall
         rw[←D6,←rO,←D7] at m2 hcall
         rw[←D8,←D9,←dP] at m3 hcall
         have z0:w.heap.size<(K j).heap.size:=by
          have h:=k0 j
          simp only[World.cell?] at h
          by_cases hh:w.heap.size<(K j).heap.size
          · exact hh
          · rw[Array.getElem?_eq_none (by omega)] at h;simp at h
         have z1:¬w.heap.size=(K j).heap.size:=by omega
         have rU:=Lib.hid hcall
         have gq:=Lib.hid hpp
         have HB:=Lib.hid (ak BW.out (KB.out j))
         clear hf0 hf1 hf2 hf3 D6 rO D7 D8 D9 dP hcall hpp hr he hxe g0 g1 g2 g3
         go_wp2_with fail
         refine(rU.out _ (ah HB.out _)).mono ?_
         intro e w3 hg
         unfold bH at hg
         cases r with
         | some cd =>
          obtain⟨rfl,hb⟩:=hg
          have HB3:=Lib.hid (ak (ah HB.out _) hb)
          clear hb
          have HR:=Lib.hid (show some cd=P by rw[gq.out];rfl)
          go_wp2_with fail
          refine⟨rfl,?_⟩
          unfold bH
          rw[←HR.out]
          exact⟨rfl,HB3.out⟩
         | none =>
          obtain⟨rfl,hb⟩:=hg
          obtain⟨j2,hj2⟩:=KS.out _ (ak (ah (KB.out j) _) hb)
          have HR:=Lib.hid (show P=iE T (ps.drop (kk+1)) by rw[gq.out];rfl)
          subst hj2
          clear hb
          go_wp2_with fail
          go_roundg g
          case measure=>omega
          case rel=>exact⟨kk+1,j2,by omega,by go_num,rfl,HR.out⟩
   · have HL := Lib.hid hp
     clear hp
     go_wp2_with fail
     clear HB
     go_loopg [32] ps.length (fun g s wx=>∃(kk:Nat) (j:ι),kk+g=ps.length∧s=.int .i64 kk∧wx=K j∧P=iE T (ps.drop kk))
     case atStart=>exact⟨0,_,by omega,rfl,rfl,HL.out⟩
     case round=>
      obtain⟨kk,j,hkg,rfl,rfl,hpp⟩:=hrel
      cases gk with
      | zero =>
       obtain rfl:kk=ps.length:=by omega
       have hd:decide ((ps.length:Int)<(ps.length:Int))=false:=by simp
       rw[List.drop_length,yx] at hpp
       have HX:=Lib.hid hpp
       clear hpp
       have HB:=Lib.hid (ak BW.out (KB.out j))
       go_wp2_with fail
       refine bodyPost_end (results_none rfl _ _ _) rfl ?_
       unfold bH
       rw[HX.out]
       exact⟨rfl,HB.out⟩
      | succ g =>
       have hk:kk<ps.length:=by omega
       have hd:decide ((kk:Int)<(ps.length:Int))=true:=by simp;omega
       have hk1:(0:Int)≤(kk:Int):=by omega
       have hk2:(kk:Int)<(ps.length:Int):=by omega
       have jC:(kk:Int)≤1000:=by omega
       obtain⟨e,he⟩:∃e,ps[kk]? = some e:=⟨_,List.getElem?_eq_getElem hk⟩
       have hxe:ps[kk]=e:=by rw[List.getElem?_eq_getElem hk] at he;exact Option.some.inj he
       rw[List.drop_eq_getElem_cons hk,hxe,wO] at hpp
       obtain⟨b,off,rfl,hlt,g0,g1,g2,g3⟩:=zm.out kk e he
       have m0:(K j).cell? ⟨b,off+kk*4,none⟩=some (.int .i64 (kf kk)):=((ak BW.out (KB.out j)).cell hlt).trans g0
       have m1:(K j).cell? ⟨b,off+kk*4+1,none⟩=some (.slice (no kk) (nn kk) (nc kk)):=((ak BW.out (KB.out j)).cell hlt).trans g1
       have m2:(K j).cell? ⟨b,off+kk*4+2,none⟩=some (.slice (eo kk) (en kk) (ec kk)):=((ak BW.out (KB.out j)).cell hlt).trans g2
       have m3:(K j).cell? ⟨b,off+kk*4+3,none⟩=some (.slice (lo kk) (ln kk) (lc kk)):=((ak BW.out (KB.out j)).cell hlt).trans g3
       obtain⟨r,hr⟩:∃r,r=pO T e:=⟨_,rfl⟩
       have hcall:=fun w' (hb:Below w.heap.size w w')=>MU.out kk e w' he hb
       rw[←hr] at hcall hpp
       obtain⟨f0,hf0⟩:∃d,d=kf kk:=⟨_,rfl⟩
       obtain⟨f1,hf1⟩:∃d,d=no kk:=⟨_,rfl⟩
       obtain⟨f2,hf2⟩:∃d,d=nn kk:=⟨_,rfl⟩
       obtain⟨f3,hf3⟩:∃d,d=nc kk:=⟨_,rfl⟩
       obtain⟨f4,D6⟩:∃d,d=eo kk:=⟨_,rfl⟩
       obtain⟨f5,rO⟩:∃d,d=en kk:=⟨_,rfl⟩
       obtain⟨f6,D7⟩:∃d,d=ec kk:=⟨_,rfl⟩
       obtain⟨f7,D8⟩:∃d,d=lo kk:=⟨_,rfl⟩
       obtain⟨f8,D9⟩:∃d,d=ln kk:=⟨_,rfl⟩
       obtain⟨f9,dP⟩:∃d,d=lc kk:=⟨_,rfl⟩
       rw[←hf0] at m0 hcall
       rw[←hf1,←hf2,←hf3] at m1 hcall
       rw[←D6,←rO,←D7] at m2 hcall
       rw[←D8,←D9,←dP] at m3 hcall
       have z0:w.heap.size<(K j).heap.size:=by
        have h:=k0 j
        simp only[World.cell?] at h
        by_cases hh:w.heap.size<(K j).heap.size
        · exact hh
        · rw[Array.getElem?_eq_none (by omega)] at h;simp at h
       have z1:¬w.heap.size=(K j).heap.size:=by omega
       have rU:=Lib.hid hcall
       have gq:=Lib.hid hpp
       have HB:=Lib.hid (ak BW.out (KB.out j))
       clear hf0 hf1 hf2 hf3 D6 rO D7 D8 D9 dP hcall hpp hr he hxe g0 g1 g2 g3
       go_wp2_with fail
       refine(rU.out _ (ah HB.out _)).mono ?_
       intro e w3 hg
       unfold bH at hg
       cases r with
       | some cd =>
        obtain⟨rfl,hb⟩:=hg
        have HB3:=Lib.hid (ak (ah HB.out _) hb)
        clear hb
        have HR:=Lib.hid (show some cd=P by rw[gq.out];rfl)
        go_wp2_with fail
        refine⟨rfl,?_⟩
        unfold bH
        rw[←HR.out]
        exact⟨rfl,HB3.out⟩
       | none =>
        obtain⟨rfl,hb⟩:=hg
        obtain⟨j2,hj2⟩:=KS.out _ (ak (ah (KB.out j) _) hb)
        have HR:=Lib.hid (show P=iE T (ps.drop (kk+1)) by rw[gq.out];rfl)
        subst hj2
        clear hb
        go_wp2_with fail
        go_roundg g
        case measure=>omega
        case rel=>exact⟨kk+1,j2,by omega,by go_num,rfl,HR.out⟩
def rV (T:List TK) (first:Bool) (s:ST):Option Int:=if (decide (s.calls.length=0) == first)=false then some 5 else rM (fC T 1 [] s.calls) (if s.p.EH=false then some 6 else pO T s.p)
def nK (T:List TK) (free:Bool):Nat→List ST→Option Int
 | _,[]=>none
 | i,s::l=>rM (rV T (decide (i=0) && !free) s) (nK T free (i+1) l)
theorem BH (T:List TK) (free:Bool) (i:Nat):nK T free i []=none:=rfl
theorem zI (T:List TK) (free:Bool) (i:Nat) (s:ST) (l:List ST):nK T free i (s::l)=rM (rV T (decide (i=0) && !free) s) (nK T free (i+1) l):=rfl
def uL (T:List TK) (r:RU):Option Int:=if ¬((0≤r.cls∧r.cls≤31)∧1≤r.steps.length∧r.steps.length≤4) then some 6 else nK T r.free 0 r.steps
theorem jD.form {w:World} {v:Value} {l:List ST} (h:jD w v l):∃o c,v=.slice o l.length c:=by
 obtain⟨ps,h1,⟨o,c,h2,_⟩,_⟩:=h;exact⟨o,c,h2⟩
theorem jD.get {w:World} {v:Value} {l:List ST} (h:jD w v l) {i:Nat} {s:ST} (hs:l[i]? = some s) :
 ∃b off cap co cc no nc eo ec lo lc,v=.slice (some ⟨b,off,none⟩) l.length cap∧b<w.heap.size∧Row w (.slice co s.calls.length cc) s.calls.length (strs s.calls)∧bU w s.p (.slice no s.p.names.length nc) (.slice eo s.p.ends.length ec) (.slice lo s.p.parts.length lc) ∧
  w.cell? ⟨b,off+i*5,none⟩=some (.slice co s.calls.length cc)∧w.cell? ⟨b,off+i*5+1,none⟩=some (.int .i64 s.p.kind)∧w.cell? ⟨b,off+i*5+2,none⟩=some (.slice no s.p.names.length nc)∧w.cell? ⟨b,off+i*5+3,none⟩=some (.slice eo s.p.ends.length ec)∧w.cell? ⟨b,off+i*5+4,none⟩=some (.slice lo s.p.parts.length lc):=by
 obtain⟨ps,rfl,hrow,hall⟩:=h
 rw[List.getElem?_map] at hs
 obtain⟨p,hp,rfl⟩:=Option.map_eq_some_iff.1 hs
 have hi:i<ps.length:=(List.getElem?_eq_some_iff.1 hp).1
 obtain⟨b,off,cap,e,hb,hc⟩:=hrow.cells' (by simp;omega)
 obtain⟨h1,h2⟩:=hall i p hp
 have h1':=h1
 obtain⟨co,cc,e1,_⟩:=h1'
 obtain⟨⟨x1,y1,e2⟩,⟨x2,y2,e3⟩,⟨x3,y3,e4⟩⟩:=h2.form
 have hget:∀j u,(five p)[j]? = some u→j<5→w.cell? ⟨b,off+(i*5+j),none⟩=some u:=fun j u hu hj=>hc _ _ (by rw[yA five 5 (fun _=>rfl) ps i j p hp hj];exact hu)
 refine⟨b,off,cap,co,cc,x1,y1,x2,y2,x3,y3,e,hb,by rw[←e1];exact h1,by rw[←e2,←e3,←e4];exact h2,?_,?_,?_,?_,?_⟩
 · rw[←e1];exact hget 0 _ rfl (by omega)
 · rw[Nat.add_assoc];exact hget 1 _ rfl (by omega)
 · rw[Nat.add_assoc,←e2];exact hget 2 _ rfl (by omega)
 · rw[Nat.add_assoc,←e3];exact hget 3 _ rfl (by omega)
 · rw[Nat.add_assoc,←e4];exact hget 4 _ rfl (by omega)
def Di (l:List ST):Prop:=∀(i:Nat) (s:ST),l[i]? = some s→s.calls.length≤1000∧s.p.Fit
theorem MV (w:World) (T:List TK) (tv rv sv:Value) (a:Int) (q:Nat) (r:RU) (E:Dg w T tv rv a q) (hs:jD w sv r.steps) (hsl:r.steps.length≤1000) (hsf:Di r.steps) :
 Calls Tryz.prog 62 #[tQ tv rv q,.agg #[.int .i64 r.cls,.bool r.free,sv]] w (bH (uL T r) a w):=by
 obtain⟨o2,q2,rfl⟩:=hs.form
 obtain⟨o7,c7,Vk,Vl,Vm,Vn,Vo,Vp,Vq,Vr,Vs,Vt,rfl,-⟩:=E.hT.all
 obtain⟨o9,n9,c9,rfl⟩:=E.p8
 obtain⟨P,hP⟩:∃P,P=uL T r:=⟨_,rfl⟩
 obtain⟨cc,fr,ss⟩:=r
 simp only at hs hsl hsf hP ⊢
 obtain⟨b1,hb1⟩:∃b,b=decide (0≤cc∧cc≤31):=⟨_,rfl⟩
 have MS:P=if b1=true∧1≤ss.length∧ss.length≤4 then nK T fr 0 ss else some 6:=by
  rw[hP,hb1];unfold uL;simp only[decide_eq_true_eq]
  by_cases h:((0≤cc∧cc≤31)∧1≤ss.length∧ss.length≤4)
  · rw[if_neg (fun k=>k h),if_pos h]
  · rw[if_pos h,if_neg h]
 rw[←hP]
 have hcls:=fun w'=>BJ cc w'
 rw[←hb1] at hcls
 have ni:=Lib.hid hcls
 have qV:=Lib.hid MS
 have HS:=Lib.hid hs
 have HSF:=Lib.hid hsf
 have HE:=Lib.hid E
 have HQ:=Lib.hid E.hq
 clear hP hb1 MS hcls hs hsf E
 go_enter Tryz.func62,Tryz.ntmps62
 go_wp2_with fail
 obtain⟨W,hW⟩:∃W,W=(w.alloc (.cells #[.slice o7 T.length c7,.slice o9 n9 c9,eY q] 119)).alloc (.cells #[.int .i64 cc,.bool fr,.slice o2 ss.length q2] 63):=⟨_,rfl⟩
 have hbW:Below w.heap.size w W:=by rw[hW];exact ah (ah (Below.refl _ _) _) _
 have hB0:W.heap[w.heap.size]? = some (.cells #[.slice o7 T.length c7,.slice o9 n9 c9,eY q] 119 (0,0)):=by
  rw[hW];exact aB (ah (Below.refl _ _) _) (heap_alloc_new w _)
 have hB1:W.heap[w.heap.size+1]? = some (.cells #[.int .i64 cc,.bool fr,.slice o2 ss.length q2] 63 (0,0)):=by
  rw[hW]
  have:=heap_alloc_new (w.alloc (.cells #[.slice o7 T.length c7,.slice o9 n9 c9,eY q] 119)) (.cells #[.int .i64 cc,.bool fr,.slice o2 ss.length q2] 63)
  simpa using this
 unfold eY at hW
 rw[←hW]
 have BW:=Lib.hid hbW
 obtain⟨ι,K,hne,hkb,hks⟩:=nJ W
 have KB:=Lib.hid hkb
 have KS:=Lib.hid hks
 have kc : ∀ w', Below W.heap.size W w' → w'.cell? ⟨w.heap.size, 0, none⟩ = some (.slice o7 T.length c7) ∧ w'.cell? ⟨w.heap.size, 1, none⟩ = some (.slice o9 n9 c9) ∧ w'.cell? ⟨w.heap.size, 2, none⟩ = some (.func (Fn.func 60) #[] #[.pointer (some ⟨q, 0, none⟩)]) := fun w' hb => by
  have:=aB hb hB0
  simp[World.cell?,this]
 have kt : ∀ w', Below W.heap.size W w' → w'.cell? ⟨w.heap.size + 1, 0, none⟩ = some (.int .i64 cc) ∧ w'.cell? ⟨w.heap.size + 1, 1, none⟩ = some (.bool fr) ∧ w'.cell? ⟨w.heap.size + 1, 2, none⟩ = some (.slice o2 ss.length q2) := fun w' hb => by
  have:=aB hb hB1
  simp[World.cell?,this]
 have k0:=fun i=>(kc _ (hkb i)).1
 have k1:=fun i=>(kc _ (hkb i)).2.1
 have k2:=fun i=>(kc _ (hkb i)).2.2
 have k3:=fun i=>(kt _ (hkb i)).1
 have k4:=fun i=>(kt _ (hkb i)).2.1
 have k5:=fun i=>(kt _ (hkb i)).2.2
 have hcs:∀i,Calls Tryz.prog 98 #[.int .i64 cc] (K i) fun e w''=>e=.returned (.bool b1)∧∃j,w''=K j:=fun i=>wQ ((ni.out (K i)).mono fun e w' h=>⟨h.1,h.2.symm⟩)
 have Gq:=Lib.hid hcs
 have Vv:=Lib.hid kc
 have Vw:=Lib.hid kt
 have kS:=hks _ (Below.refl W.heap.size W).drew
 clear hcs ni hW hbW hB0 hB1 hkb hks kc kt
 cases b1 with
 | false =>
  refine dJ K 17 (by kernel_rfl) (by kernel_rfl) kS ?_
  simp only[List.take_succ_cons,List.take_zero,List.drop_succ_cons,List.drop_zero]
  repeat (go_big_quiet_step (exact Gq.out _))
  refine wpQuiet_nil ?_
  rintro _ ⟨iw,rfl⟩
  have HB:=Lib.hid (ak BW.out (KB.out iw))
  have HR:=Lib.hid (show some 6=P by rw[qV.out];simp)
  go_wp2_with fail
  refine(gH q 6 a _ (aB HB.out HQ.out)).mono ?_
  rintro e w3 ⟨rfl,rfl⟩
  go_wp2_with fail
  refine⟨rfl,?_⟩
  unfold bH
  rw[←HR.out]
  exact⟨rfl,HB.out⟩
 | true =>
  by_cases hn1:1≤ss.length
  · have d1 : decide ((1 : Int) ≤ (ss.length : Int)) = true := by simp; omega
    by_cases zB:ss.length≤4
    · have d4 : decide ((ss.length : Int) ≤ (4 : Int)) = true := by simp; omega
      have D5:=Lib.hid (show P=nK T fr 0 ss by rw[qV.out,if_pos ⟨rfl,hn1,zB⟩])
      clear qV
      refine dJ K 17 (by kernel_rfl) (by kernel_rfl) kS ?_
      simp only[List.take_succ_cons,List.take_zero,List.drop_succ_cons,List.drop_zero]
      repeat (go_big_quiet_step (exact Gq.out _))
      refine wpQuiet_nil ?_
      rintro _ ⟨iw,rfl⟩
      have HB:=Lib.hid (ak BW.out (KB.out iw))
      go_wp2_with fail
      refine(jL q 6 _).mono ?_
      rintro e w3 ⟨rfl,rfl⟩
      go_wp2_with fail
      clear HB d1 d4 hn1 zB
      go_loopg [28] ss.length (fun g s wx=>∃(kk:Nat) (j:ι),kk+g=ss.length∧s=.int .i64 kk∧wx=K j∧P=nK T fr kk (ss.drop kk))
      case atStart=>exact⟨0,_,by omega,rfl,rfl,D5.out⟩
      case round=>
       obtain⟨kk,j,hkg,rfl,rfl,hpp⟩:=hrel
       cases gk with
       | zero =>
        obtain rfl:kk=ss.length:=by omega
        have hd:decide ((ss.length:Int)<(ss.length:Int))=false:=by simp
        rw[List.drop_length,BH] at hpp
        have HX:=Lib.hid hpp
        clear hpp
        have HB:=Lib.hid (ak BW.out (KB.out j))
        go_wp2_with fail
        refine bodyPost_end (results_none rfl _ _ _) rfl ?_
        unfold bH
        rw[HX.out]
        exact⟨rfl,HB.out⟩
       | succ g =>
        have hk:kk<ss.length:=by omega
        have hd:decide ((kk:Int)<(ss.length:Int))=true:=by simp;omega
        have hk1:(0:Int)≤(kk:Int):=by omega
        have hk2:(kk:Int)<(ss.length:Int):=by omega
        have jC:(kk:Int)≤1000:=by omega
        obtain⟨s,hse⟩:∃e,ss[kk]? = some e:=⟨_,List.getElem?_eq_getElem hk⟩
        have hxe:ss[kk]=s:=by rw[List.getElem?_eq_getElem hk] at hse;exact Option.some.inj hse
        rw[List.drop_eq_getElem_cons hk,hxe,zI] at hpp
        have hsf:=HSF.out kk s hse
        obtain⟨b,off,cap,co,cq,no,nc,eo,ec,lo,lc,e,hlt,hrow,hpt,g0,g1,g2,g3,g4⟩:=HS.out.get hse
        simp only[Value.slice.injEq,true_and] at e
        obtain⟨rfl,rfl⟩:=e
        have m0:(K j).cell? ⟨b,off+kk*5,none⟩=some (.slice co s.calls.length cq):=((ak BW.out (KB.out j)).cell hlt).trans g0
        have m1:(K j).cell? ⟨b,off+kk*5+1,none⟩=some (.int .i64 s.p.kind):=((ak BW.out (KB.out j)).cell hlt).trans g1
        have m2:(K j).cell? ⟨b,off+kk*5+2,none⟩=some (.slice no s.p.names.length nc):=((ak BW.out (KB.out j)).cell hlt).trans g2
        have m3:(K j).cell? ⟨b,off+kk*5+3,none⟩=some (.slice eo s.p.ends.length ec):=((ak BW.out (KB.out j)).cell hlt).trans g3
        have m4:(K j).cell? ⟨b,off+kk*5+4,none⟩=some (.slice lo s.p.parts.length lc):=((ak BW.out (KB.out j)).cell hlt).trans g4
        have z0:w.heap.size<(K j).heap.size:=by
         have h:=k0 j
         simp only[World.cell?] at h
         by_cases hh:w.heap.size<(K j).heap.size
         · exact hh
         · rw[Array.getElem?_eq_none (by omega)] at h;simp at h
        have z1:w.heap.size+1<(K j).heap.size:=by
         have h:=k3 j
         simp only[World.cell?] at h
         by_cases hh:w.heap.size+1<(K j).heap.size
         · exact hh
         · rw[Array.getElem?_eq_none (by omega)] at h;simp at h
        obtain⟨nl,hnl⟩:∃n,n=s.calls.length:=⟨_,rfl⟩
        obtain⟨pk,hpk⟩:∃n,n=s.p.kind:=⟨_,rfl⟩
        obtain⟨pn,hpn⟩:∃n,n=s.p.names.length:=⟨_,rfl⟩
        obtain⟨pe,hpe⟩:∃n,n=s.p.ends.length:=⟨_,rfl⟩
        obtain⟨pl,hpl⟩:∃n,n=s.p.parts.length:=⟨_,rfl⟩
        rw[←hnl] at m0
        rw[←hpk] at m1
        rw[←hpn] at m2
        rw[←hpe] at m3
        rw[←hpl] at m4
        obtain⟨W2,hW2⟩:∃W2,W2=(K j).alloc (.cells #[.slice co nl cq,.int .i64 pk,.slice no pn nc,.slice eo pe ec,.slice lo pl lc] 60):=⟨_,rfl⟩
        have hb2:Below W.heap.size W W2:=by rw[hW2];exact ah (KB.out j) _
        have hB2:W2.heap[(K j).heap.size]? = some (.cells #[.slice co nl cq,.int .i64 pk,.slice no pn nc,.slice eo pe ec,.slice lo pl lc] 60 (0,0)):=by rw[hW2];exact heap_alloc_new (K j) _
        obtain⟨p2,hp2⟩:∃p,p=(K j).heap.size:=⟨_,rfl⟩
        obtain⟨ι2,K2,hne2,hkb2,KX⟩:=nJ W2
        have yB:∀i,Below W.heap.size W (K2 i):=fun i=>ak hb2 (hkb2 i)
        have n0:=fun i=>(Vv.out _ (yB i)).1
        have n1:=fun i=>(Vv.out _ (yB i)).2.1
        have n2:=fun i=>(Vv.out _ (yB i)).2.2
        have n3:=fun i=>(Vw.out _ (yB i)).1
        have n4:=fun i=>(Vw.out _ (yB i)).2.1
        have n5:=fun i=>(Vw.out _ (yB i)).2.2
        rw[←hp2] at hB2
        have ks : ∀ i, (K2 i).cell? ⟨p2, 0, none⟩ = some (.slice co nl cq) ∧ (K2 i).cell? ⟨p2, 1, none⟩ = some (.int .i64 pk) ∧ (K2 i).cell? ⟨p2, 2, none⟩ = some (.slice no pn nc) ∧ (K2 i).cell? ⟨p2, 3, none⟩ = some (.slice eo pe ec) ∧ (K2 i).cell? ⟨p2, 4, none⟩ = some (.slice lo pl lc) := fun i => by
         have:=aB (hkb2 i) hB2
         simp[World.cell?,this]
        have n6:=fun i=>(ks i).1
        have n7:=fun i=>(ks i).2.1
        have n8:=fun i=>(ks i).2.2.1
        have n9':=fun i=>(ks i).2.2.2.1
        have n10:=fun i=>(ks i).2.2.2.2
        obtain⟨r1,hr1⟩:∃r,r=fC T 1 [] s.calls:=⟨_,rfl⟩
        obtain⟨b2,hb2'⟩:∃r,r=s.p.EH:=⟨_,rfl⟩
        obtain⟨r2,hr2⟩:∃r,r=pO T s.p:=⟨_,rfl⟩
        obtain⟨fst,yC⟩:∃b,b=(decide (kk=0) && !fr):=⟨_,rfl⟩
        obtain⟨b3,hb3⟩:∃b,b=(decide (s.calls.length=0) == fst):=⟨_,rfl⟩
        have hbel:∀i,Below w.heap.size w (K2 i):=fun i=>ak BW.out (yB i)
        have hc1 : ∀ i, Calls Tryz.prog 101 #[tQ (.slice o7 T.length c7) (.slice o9 n9 c9) q, .slice co nl cq, .int .i64 1] (K2 i) (bH r1 a (K2 i)) := fun i => by
         rw[hr1,hnl];exact wP (HE.out.moved (hbel i)) s.calls _ 1 (hrow.below (hbel i)) hsf.1
        have hc2 : ∀ i, Calls Tryz.prog 102 #[.agg #[.int .i64 pk, .slice no pn nc, .slice eo pe ec, .slice lo pl lc]] (K2 i) fun e w'' => e = .returned (.bool b2) ∧ ∃ j, w'' = K2 j := fun i => by
         rw[hb2',hpk,hpn,hpe,hpl];exact mY hkb2 KX (Pj s.p _ _ _ (K2 i) (hpt.moved (hbel i)) hsf.2)
        have hc3 : ∀ i, Calls Tryz.prog 103 #[tQ (.slice o7 T.length c7) (.slice o9 n9 c9) q, .agg #[.int .i64 pk, .slice no pn nc, .slice eo pe ec, .slice lo pl lc]] (K2 i) (bH r2 a (K2 i)) := fun i => by
         rw[hr2,hpk,hpn,hpe,hpl];exact Ph w T _ _ a q HE.out s.p.size s.p _ _ _ (K2 i) (Nat.le_refl _) hsf.2 (hpt.moved (hbel i)) (hbel i)
        have hp3:b3=false→some 5=P:=fun h=>by rw[hpp];unfold rV;rw[←yC,←hb3,if_pos h];rfl
        have Ya:b3=true→∀c,r1=some c→some c=P:=fun h c h1=>by rw[hpp];unfold rV;rw[←yC,←hb3,if_neg (by rw[h];simp),←hr1,h1];rfl
        have Yb:b3=true→r1=none→b2=false→some 6=P:=fun h h1 h2=>by rw[hpp];unfold rV;rw[←yC,←hb3,if_neg (by rw[h];simp),←hr1,h1,←hb2',if_pos h2];rfl
        have Yc:b3=true→r1=none→b2=true→∀c,r2=some c→some c=P:=fun h h1 h2 c h3=>by rw[hpp];unfold rV;rw[←yC,←hb3,if_neg (by rw[h];simp),←hr1,h1,←hb2',if_neg (by rw[h2];simp),←hr2,h3];rfl
        have Yd:b3=true→r1=none→b2=true→r2=none→P=nK T fr (kk+1) (ss.drop (kk+1)):=fun h h1 h2 h3=>by rw[hpp];unfold rV;rw[←yC,←hb3,if_neg (by rw[h];simp),←hr1,h1,←hb2',if_neg (by rw[h2];simp),←hr2,h3];rfl
        have hn0:((nl:Int) == 0)=decide (s.calls.length=0):=by
         rw[←hnl];by_cases h:nl=0
         · subst h;rfl
         · have : ((nl : Int) == 0) = false := by simp; omega
           rw[this];simp[h]
        have Ye:(kk=0∧((kk:Int) == 0)=true∧fst = !fr)∨(kk≠0∧((kk:Int) == 0)=false∧fst=false):=by
         by_cases h:kk=0
         · left;refine⟨h,by simp[h],by rw[yC];simp[h]⟩
         · right;refine⟨h,by simp;omega,by rw[yC];simp[h]⟩
        have Vx:(((nl:Int) == 0) == fst)=b3:=by rw[hb3,hn0]
        have Dx:=Lib.hid hc1
        have xk:=Lib.hid hc2
        have HC3:=Lib.hid hc3
        have HP3:=Lib.hid hp3
        have HP4:=Lib.hid Ya
        have HP5:=Lib.hid Yb
        have HP6:=Lib.hid Yc
        have HP7:=Lib.hid Yd
        have Vy:=Lib.hid hkb2
        have Yf:=Lib.hid KX
        have BW2:=Lib.hid (ak BW.out hb2)
        have HB2:=Lib.hid hb2
        have KY:=Lib.hid hbel
        have HKF:=Lib.hid Ye
        have HN0:=Lib.hid Vx
        have HW2:=Lib.hid hW2
        have kS:=KX _ (Below.refl W2.heap.size W2)
        have HP2:=Lib.hid hp2
        have HW3:=Lib.hid hW2
        clear hc1 hc2 hc3 hp3 Ya Yb Yc Yd hkb2 KX hb2 hB2 hbel Ye Vx yB ks hr1 hb2' hr2 yC hb3 hn0 hpp hxe hse hsf g0 g1 g2 g3 g4 hrow hpt hnl hpk hpn hpe hpl hW2 hp2
        obtain⟨X,hX⟩:∃X:Bool,X=(((nl:Int) == 0) == fst):=⟨_,rfl⟩
        have Yg:X=b3:=hX.trans HN0.out
        have HXB:=Lib.hid Yg
        clear Yg
        have hkd:∃Y:Bool,Y=X∧((kk=0∧((kk:Int) == 0)=true∧(((nl:Int) == 0) == !fr)=Y)∨(kk≠0∧((kk:Int) == 0)=false∧(!((nl:Int) == 0))=Y)):=by
         refine⟨X,rfl,?_⟩
         rcases HKF.out with⟨h0,d0,hf0⟩|⟨h0,d0,hf0⟩
         · left;exact⟨h0,d0,by rw[hX,hf0]⟩
         · right;exact⟨h0,d0,by rw[hX,hf0];cases ((nl:Int) == 0)<;>rfl⟩
        clear hX
        obtain⟨Y,rfl,⟨hk0,d0,hx⟩|⟨hk0,d0,hx⟩⟩:=hkd
        all_goals
         have HXX:=Lib.hid hx
         clear hk0 hx
         go_wp2_with fail
         rw[HXX.out,←HW2.out,←HP2.out]
         have HB:=Lib.hid BW2.out
         refine(Pk q _ 5 a _ (aB HB.out HQ.out)).mono ?_
         rintro e w3 ⟨⟨hxt,rfl⟩|⟨hxt,rfl⟩,rfl⟩
         · have Ra := Lib.hid (HXB.out.symm.trans hxt)
           clear hxt
           obtain⟨iw,hiw⟩:=kS
           rw[hiw]
           go_wp2_with fail
           refine(Dx.out iw).mono ?_
           intro e w3 hg
           unfold bH at hg
           cases r1 with
           | some cd =>
            obtain⟨rfl,hb⟩:=hg
            have HB3:=Lib.hid (ak (KY.out iw) hb)
            clear hb
            have HR:=Lib.hid (HP4.out Ra.out cd rfl)
            go_wp2_with fail
            refine⟨rfl,?_⟩
            unfold bH
            rw[←HR.out]
            exact⟨rfl,HB3.out⟩
           | none =>
            obtain⟨rfl,hb⟩:=hg
            obtain⟨Rb,rfl⟩:=Yf.out _ (ak (Vy.out iw) hb)
            clear hb
            have Vz:=Yf.out _ (Vy.out Rb).drew
            go_wp2_with fail
            refine dJ K2 5 (by kernel_rfl) (by kernel_rfl) Vz ?_
            simp only[List.take_succ_cons,List.take_zero,List.drop_succ_cons,List.drop_zero]
            repeat (go_big_quiet_step (exact xk.out _))
            refine wpQuiet_nil ?_
            rintro _ ⟨MW,rfl⟩
            cases b2 with
            | false =>
             have HR:=Lib.hid (HP5.out Ra.out (by first|exact trivial|rfl) (by first|exact trivial|rfl))
             go_wp2_with fail
             refine(gH q 6 a _ (aB (KY.out MW) HQ.out)).mono ?_
             rintro e w3 ⟨rfl,rfl⟩
             go_wp2_with fail
             refine⟨rfl,?_⟩
             unfold bH
             rw[←HR.out]
             exact⟨rfl,KY.out MW⟩
            | true =>
             go_wp2_with fail
             refine(jL q 6 _).mono ?_
             rintro e w3 ⟨rfl,rfl⟩
             go_wp2_with fail
             refine(HC3.out MW).mono ?_
             intro e w3 hg
             unfold bH at hg
             cases r2 with
             | some cd =>
              obtain⟨rfl,hb⟩:=hg
              have HB3:=Lib.hid (ak (KY.out MW) hb)
              clear hb
              have HR:=Lib.hid (HP6.out Ra.out (by first|exact trivial|rfl) (by first|exact trivial|rfl) cd (by first|exact trivial|rfl))
              go_wp2_with fail
              refine⟨rfl,?_⟩
              unfold bH
              rw[←HR.out]
              exact⟨rfl,HB3.out⟩
             | none =>
              obtain⟨rfl,hb⟩:=hg
              obtain⟨j2,hj2⟩:=KS.out _ (ak (ak HB2.out (Vy.out MW)) hb)
              have HR:=Lib.hid (HP7.out Ra.out (by first|exact trivial|rfl) (by first|exact trivial|rfl) (by first|exact trivial|rfl))
              subst hj2
              clear hb
              go_wp2_with fail
              go_roundg g
              case measure=>omega
              case rel=>exact⟨kk+1,j2,by omega,by go_num,rfl,HR.out⟩
         · have HR := Lib.hid (HP3.out (HXB.out.symm.trans hxt))
           clear hxt
           go_wp2_with fail
           refine⟨rfl,?_⟩
           unfold bH
           rw[←HR.out]
           exact⟨rfl,HB.out⟩
    · have d4 : decide ((ss.length : Int) ≤ (4 : Int)) = false := by simp; omega
      have D5:=Lib.hid (show P=some 6 by rw[qV.out,if_neg (by omega)])
      clear qV
      refine dJ K 17 (by kernel_rfl) (by kernel_rfl) kS ?_
      simp only[List.take_succ_cons,List.take_zero,List.drop_succ_cons,List.drop_zero]
      repeat (go_big_quiet_step (exact Gq.out _))
      refine wpQuiet_nil ?_
      rintro _ ⟨iw,rfl⟩
      have HB:=Lib.hid (ak BW.out (KB.out iw))
      have HR:=Lib.hid (show some 6=P by rw[D5.out])
      go_wp2_with fail
      refine(gH q 6 a _ (aB HB.out HQ.out)).mono ?_
      rintro e w3 ⟨rfl,rfl⟩
      go_wp2_with fail
      refine⟨rfl,?_⟩
      unfold bH
      rw[←HR.out]
      exact⟨rfl,HB.out⟩
  · have d1 : decide ((1 : Int) ≤ (ss.length : Int)) = false := by simp; omega
    have D5:=Lib.hid (show P=some 6 by rw[qV.out,if_neg (by omega)])
    clear qV
    refine dJ K 17 (by kernel_rfl) (by kernel_rfl) kS ?_
    simp only[List.take_succ_cons,List.take_zero,List.drop_succ_cons,List.drop_zero]
    repeat (go_big_quiet_step (exact Gq.out _))
    refine wpQuiet_nil ?_
    rintro _ ⟨iw,rfl⟩
    have HB:=Lib.hid (ak BW.out (KB.out iw))
    have HR:=Lib.hid (show some 6=P by rw[D5.out])
    go_wp2_with fail
    refine(gH q 6 a _ (aB HB.out HQ.out)).mono ?_
    rintro e w3 ⟨rfl,rfl⟩
    go_wp2_with fail
    refine⟨rfl,?_⟩
    unfold bH
    rw[←HR.out]
    exact⟨rfl,HB.out⟩
def qK (T:List TK):Nat→List TK→Option (Int×Int)
 | _,[]=>none
 | i,t::l=>match nA T i t with|some c=>some (c,(i:Int))|none=>qK T (i+1) l
theorem Ea (T:List TK) (i:Nat):qK T i []=none:=rfl
theorem BK (T:List TK) (i:Nat) (t:TK) (l:List TK):qK T i (t::l)=match nA T i t with|some c=>some (c,(i:Int))|none=>qK T (i+1) l:=rfl
def mI (T:List TK):Nat→List RU→Option (Int×Int)
 | _,[]=>none
 | i,t::l=>match uL T t with|some c=>some (c,(T.length:Int)+(i:Int))|none=>mI T (i+1) l
theorem BL (T:List TK) (i:Nat):mI T i []=none:=rfl
theorem zJ (T:List TK) (i:Nat) (t:RU) (l:List RU):mI T i (t::l)=match uL T t with|some c=>some (c,(T.length:Int)+(i:Int))|none=>mI T (i+1) l:=rfl
def jd (T:List TK) (R:List RU):Int×Int:=
 if ¬ (1 ≤ T.length ∧ T.length ≤ 16) then (6, 0) else match qK T 0 T with
  | some e=>e
  | none=>if ¬R.length≤8 then (6,(T.length:Int)) else match mI T 0 R with|some e=>e|none=>(0,0)
def oK (T:List TK):Prop:=∀(i:Nat) (t:TK),T[i]? = some t→t.name.size≤1000∧t.re.Fit
def oL (R:List RU):Prop:=∀(i:Nat) (r:RU),R[i]? = some r→r.steps.length≤1000∧Di r.steps
theorem jE.form {w:World} {v:Value} {l:List RU} (h:jE w v l):∃o c,v=.slice o l.length c:=by
 obtain⟨ps,h1,⟨o,c,h2,_⟩,_⟩:=h;exact⟨o,c,h2⟩
theorem jE.get {w:World} {v:Value} {l:List RU} (h:jE w v l) {i:Nat} {r:RU} (hs:l[i]? = some r) :
 ∃b off cap so sc,v=.slice (some ⟨b,off,none⟩) l.length cap∧b<w.heap.size∧jD w (.slice so r.steps.length sc) r.steps∧w.cell? ⟨b,off+i*3,none⟩=some (.int .i64 r.cls)∧w.cell? ⟨b,off+i*3+1,none⟩=some (.bool r.free)∧w.cell? ⟨b,off+i*3+2,none⟩=some (.slice so r.steps.length sc):=by
 obtain⟨ps,rfl,hrow,hall⟩:=h
 rw[List.getElem?_map] at hs
 obtain⟨p,hp,rfl⟩:=Option.map_eq_some_iff.1 hs
 have hi:i<ps.length:=(List.getElem?_eq_some_iff.1 hp).1
 obtain⟨b,off,cap,e,hb,hc⟩:=hrow.cells' (by simp;omega)
 have h1:=hall i p hp
 obtain⟨so,sc,e1⟩:=h1.form
 have hget:∀j u,(three p)[j]? = some u→j<3→w.cell? ⟨b,off+(i*3+j),none⟩=some u:=fun j u hu hj=>hc _ _ (by rw[yA three 3 (fun _=>rfl) ps i j p hp hj];exact hu)
 refine⟨b,off,cap,so,sc,e,hb,by rw[←e1];exact h1,?_,?_,?_⟩
 · exact hget 0 _ rfl (by omega)
 · rw[Nat.add_assoc];exact hget 1 _ rfl (by omega)
 · rw[Nat.add_assoc,←e1];exact hget 2 _ rfl (by omega)
structure CK (w w':World) (tv rv:Value) (a:Int):Prop where
 aV:Below w.heap.size w w'
 hi:w.heap.size+5≤w'.heap.size
 hg:w'.heap[w.heap.size]? = some (.cells #[tv,rv] 26 (0,0))
 h1:w'.heap[w.heap.size+1]? = some (.cells #[.int .i64 0] 3 (0,0))
 h2:w'.heap[w.heap.size+1+1]? = some (.cells #[.int .i64 0] 3 (0,0))
 ha:w'.heap[w.heap.size+1+1+1]? = some (.cells #[.int .i64 a] 3 (0,0))
 hc:w'.heap[w.heap.size+1+1+1+1]? = some (.cells #[tv,rv,eY (w.heap.size+1+1+1)] 119 (0,0))
theorem CK.moved {w w' w'':World} {tv rv:Value} {a:Int} (h:CK w w' tv rv a) (hb:Below w'.heap.size w' w''):CK w w'' tv rv a:=
 ⟨ak h.aV hb,Nat.le_trans h.hi hb.size,aB hb h.hg,aB hb h.h1,aB hb h.h2,aB hb h.ha,aB hb h.hc⟩
theorem CK.set {w w':World} {tv rv:Value} {a:Int} (h:CK w w' tv rv a) (b:Int):CK w (w'.setCell ⟨w.heap.size+1+1+1,0,none⟩ (.int .i64 b)) tv rv b:=by
 refine⟨h.aV.setCell (by simp;omega) _,by simpa [World.setCell] using h.hi,?_,?_,?_,?_,?_⟩
 · rw[Below.heap_setCell _ _ _ _ (by simp;omega)];exact h.hg
 · rw[Below.heap_setCell _ _ _ _ (by simp)];exact h.h1
 · rw[Below.heap_setCell _ _ _ _ (by simp)];exact h.h2
 · exact mg h.ha _
 · rw[Below.heap_setCell _ _ _ _ (by simp)];exact h.hc
theorem CK.cells {w w':World} {tv rv:Value} {a:Int} (h:CK w w' tv rv a):w'.cell? ⟨w.heap.size,0,none⟩=some tv∧w'.cell? ⟨w.heap.size,1,none⟩=some rv∧w'.cell? ⟨w.heap.size+1+1+1+1,0,none⟩=some tv∧w'.cell? ⟨w.heap.size+1+1+1+1,1,none⟩=some rv∧w'.cell? ⟨w.heap.size+1+1+1+1,2,none⟩=some (eY (w.heap.size+1+1+1)) ∧
 w'.cell? ⟨w.heap.size+1+1+1,0,none⟩=some (.int .i64 a)∧w'.frozen? ⟨w.heap.size+1+1+1,0,none⟩=false:=by
 have h0:=h.hg
 have h4:=h.hc
 obtain⟨c,z⟩:=aj h.ha
 simp only[World.cell?,h0,h4]
 exact⟨rfl,rfl,rfl,rfl,rfl,c,z⟩
theorem CK.start (w W:World) (tv rv:Value) (hW:W=((((w.alloc (.cells #[tv,rv] 26)).alloc (.cells #[.int .i64 0] 3)).alloc (.cells #[.int .i64 0] 3)).alloc (.cells #[.int .i64 0] 3)).alloc (.cells #[tv,rv,eY (w.heap.size+1+1+1)] 119)):CK w W tv rv 0:=by
 obtain⟨w1,h1⟩:∃w1,w1=w.alloc (.cells #[tv,rv] 26):=⟨_,rfl⟩
 rw[←h1] at hW
 obtain⟨w2,h2⟩:∃w2,w2=w1.alloc (.cells #[.int .i64 0] 3):=⟨_,rfl⟩
 rw[←h2] at hW
 obtain⟨w3,h3⟩:∃w3,w3=w2.alloc (.cells #[.int .i64 0] 3):=⟨_,rfl⟩
 rw[←h3] at hW
 obtain⟨w4,h4⟩:∃w4,w4=w3.alloc (.cells #[.int .i64 0] 3):=⟨_,rfl⟩
 rw[←h4] at hW
 have s1:w1.heap.size=w.heap.size+1:=by rw[h1];simp
 have s2:w2.heap.size=w.heap.size+1+1:=by rw[h2];simp[s1]
 have s3:w3.heap.size=w.heap.size+1+1+1:=by rw[h3];simp[s2]
 have s4:w4.heap.size=w.heap.size+1+1+1+1:=by rw[h4];simp[s3]
 have s5:W.heap.size=w.heap.size+1+1+1+1+1:=by rw[hW];simp[s4]
 have b1:Below w.heap.size w w1:=by rw[h1];exact ah (Below.refl _ _) _
 have b2:Below w1.heap.size w1 w2:=by rw[h2];exact ah (Below.refl _ _) _
 have b3:Below w2.heap.size w2 w3:=by rw[h3];exact ah (Below.refl _ _) _
 have b4:Below w3.heap.size w3 w4:=by rw[h4];exact ah (Below.refl _ _) _
 have b5:Below w4.heap.size w4 W:=by rw[hW];exact ah (Below.refl _ _) _
 have g1:=heap_alloc_new w (.cells #[tv,rv] 26)
 have g2:=heap_alloc_new w1 (.cells #[.int .i64 0] 3)
 have g3:=heap_alloc_new w2 (.cells #[.int .i64 0] 3)
 have g4:=heap_alloc_new w3 (.cells #[.int .i64 0] 3)
 have g5:=heap_alloc_new w4 (.cells #[tv,rv,eY (w.heap.size+1+1+1)] 119)
 rw[←h1] at g1
 rw[←h2,s1] at g2
 rw[←h3,s2] at g3
 rw[←h4,s3] at g4
 rw[←hW,s4] at g5
 exact⟨ak (ak (ak (ak b1 b2) b3) b4) b5,by omega,aB b5 (aB b4 (aB b3 (aB b2 g1))),aB b5 (aB b4 (aB b3 g2)),aB b5 (aB b4 g3),aB b5 g4,g5⟩
theorem oh (T:List TK) (R:List RU) (tv rv:Value) (w:World) (hT:iO w tv T) (hR:jE w rv R) (iH:T.length≤1000) (hRl:R.length≤1000) (fJ:oK T) (fK:oL R) :
 Calls Tryz.prog 25 #[.agg #[tv,rv]] w fun e w'=>e=.returned (.tuple #[.int .i64 (jd T R).1,.int .i64 (jd T R).2])∧Below w.heap.size w w':=by
 have ng:∀(fn:Fn) (first cap:Array Value) (w:World),(Instr.makeFunc fn first cap).run Tryz.prog w=.ok (.func fn first cap) w:=fun _ _ _ _=>rfl
 obtain⟨o7,c7,Vk,Vl,Vm,Vn,Vo,Vp,Vq,Vr,Vs,Vt,rfl,-⟩:=hT.all
 obtain⟨o9,c9,rfl⟩:=hR.form
 have HT:=Lib.hid hT
 have HRU:=Lib.hid hR
 have Yh:=Lib.hid fJ
 have Yi:=Lib.hid fK
 clear hT hR fJ fK
 by_cases hl1:1≤T.length∧T.length≤16
 · have d1 : decide ((1 : Int) ≤ (T.length : Int)) = true := by simp; omega
   have d2:decide ((T.length:Int)≤(16:Int))=true:=by simp;omega
   have Gr:=Lib.hid hl1
   clear hl1
   go_enter_defers Tryz.func25,Tryz.ntmps25
   go_wp2_with fail
   obtain⟨W,hW⟩:∃W,W=((((w.alloc (.cells #[.slice o7 T.length c7,.slice o9 R.length c9] 26)).alloc (.cells #[.int .i64 0] 3)).alloc (.cells #[.int .i64 0] 3)).alloc (.cells #[.int .i64 0] 3)).alloc (.cells #[.slice o7 T.length c7,.slice o9 R.length c9,eY (w.heap.size+1+1+1)] 119):=⟨_,rfl⟩
   have BM:=Lib.hid (CK.start w W _ _ hW)
   unfold eY at hW
   rw[←hW]
   refine(jL _ 6 _).mono ?_
   rintro e w3 ⟨rfl,rfl⟩
   clear hW
   obtain⟨c0,c1,c2,c3,c4,c5,z5⟩:=BM.out.cells
   go_wp2_with fail
   clear c0 c1 c2 c3 c4 c5 z5
   obtain⟨E,hE⟩:∃E,E=jd T R:=⟨_,rfl⟩
   have hE1:E=match qK T 0 T with|some e=>e|none=>if ¬R.length≤8 then (6,(T.length:Int)) else match mI T 0 R with|some e=>e|none=>(0,0):=by rw[hE];unfold jd;rw[if_neg (fun h=>h Gr.out)]
   have HE:=Lib.hid hE
   have VA:=Lib.hid hE1
   clear hE hE1
   go_loopg [28] T.length (fun g s wx=>∃(k:Nat) (a:Int),k+g=T.length∧s=.int .i64 k∧CK w wx (.slice o7 T.length c7) (.slice o9 R.length c9) a∧qK T 0 T=qK T k (T.drop k))
   case atStart=>exact⟨0,0,by omega,rfl,BM.out,rfl⟩
   case round=>
    obtain⟨k,a,hkg,rfl,hck,hpp⟩:=hrel
    clear BM
    obtain⟨wo,rfl⟩:∃wo:World,wo=wr:=⟨_,rfl⟩
    have BN:=Lib.hid hck
    obtain⟨c0,c1,c2,c3,c4,c5,z5⟩:=hck.cells
    have hsz:=hck.hi
    unfold eY at c4
    cases gk with
    | zero =>
     obtain rfl:k=T.length:=by omega
     have hd:decide ((T.length:Int)<(T.length:Int))=false:=by simp
     rw[List.drop_length,Ea] at hpp
     have hE2:=VA.out
     rw[hpp] at hE2
     simp only at hE2
     have HE2:=Lib.hid hE2
     clear hpp hck hE2 VA
     by_cases Rc:R.length≤8
     · have d8 : decide ((R.length : Int) ≤ (8 : Int)) = true := by simp; omega
       have JE:E=match mI T 0 R with|some e=>e|none=>(0,0):=HE2.out.trans (if_neg (fun h=>h Rc))
       have MX:=Lib.hid JE
       clear JE HE2 Rc
       go_wp2_with fail
       have p9:=Lib.hid (BN.out.set (T.length:Int))
       refine(jL _ 6 _).mono ?_
       rintro e w3 ⟨rfl,rfl⟩
       obtain⟨W6,bA⟩:∃W6,W6=wo.setCell ⟨w.heap.size+1+1+1,0,none⟩ (.int .i64 T.length):=⟨_,rfl⟩
       rw[←bA] at p9 ⊢
       clear bA c0 c1 c2 c3 c4 c5 z5 hsz BN hd
       obtain⟨c0,c1,c2,c3,c4,c5,z5⟩:=p9.out.cells
       go_wp2_with fail
       clear c0 c1 c2 c3 c4 c5 z5
       go_loopg [48] R.length (fun g s wx=>∃(k:Nat) (a:Int),k+g=R.length∧s=.int .i64 k∧CK w wx (.slice o7 T.length c7) (.slice o9 R.length c9) a∧mI T 0 R=mI T k (R.drop k))
       case atStart=>exact⟨0,_,by omega,rfl,p9.out,rfl⟩
       case round=>
        obtain⟨k,a,hkg,rfl,hck,hpp⟩:=hrel
        clear p9
        obtain⟨wo,rfl⟩:∃wo:World,wo=wr:=⟨_,rfl⟩
        have BN:=Lib.hid hck
        obtain⟨c0,c1,c2,c3,c4,c5,z5⟩:=hck.cells
        have hsz:=hck.hi
        unfold eY at c4
        cases gk with
        | zero =>
         obtain rfl:k=R.length:=by omega
         have hd:decide ((R.length:Int)<(R.length:Int))=false:=by simp
         rw[List.drop_length,BL] at hpp
         have HR:=Lib.hid (HE.out.symm.trans (MX.out.trans (by rw[hpp])))
         obtain⟨d1,y1⟩:=aj hck.h1
         obtain⟨d2,y2⟩:=aj hck.h2
         clear hpp hck MX
         go_wp2
         refine leaves_cons (f:=59) (args:=#[.pointer (some ⟨w.heap.size+1,0,none⟩),.pointer (some ⟨w.heap.size+1+1,0,none⟩)]) (by simp) (by simp[go_sem]) ?_
         refine(I6 _ _ _).mono ?_
         rintro e u' w'' ⟨rfl,rfl,rfl⟩
         obtain⟨W8,dG⟩:∃W8,W8=((wo.setCell ⟨w.heap.size+1,0,none⟩ (.int .i64 0)).setCell ⟨w.heap.size+1+1,0,none⟩ (.int .i64 0)).alloc (.cells #[.int .i64 0,.int .i64 0] 115):=⟨_,rfl⟩
         rw[←dG]
         have gF:Below w.heap.size w W8:=by
          rw[dG]
          exact(((BN.out.aV.setCell (by simp) _).setCell (by simp;omega) _).alloc (by simp[World.setCell];omega) _)
         have g1:W8.heap[w.heap.size+1]? = some (.cells #[.int .i64 0] 3 (0,0)):=by
          rw[dG,Below.heap_alloc _ _ _ (by simp[World.setCell];omega),Below.heap_setCell _ _ _ _ (by simp)]
          exact mg BN.out.h1 _
         have g2:W8.heap[w.heap.size+1+1]? = some (.cells #[.int .i64 0] 3 (0,0)):=by
          rw[dG,Below.heap_alloc _ _ _ (by simp[World.setCell];omega)]
          refine mg (a:=.int .i64 0) ?_ _
          rw[Below.heap_setCell _ _ _ _ (by simp)]
          exact BN.out.h2
         clear d1 y1 d2 y2 dG
         obtain⟨d1,y1⟩:=aj g1
         obtain⟨d2,y2⟩:=aj g2
         simp[Leaves,settle,results,Tryz.results25,go_sem,d1,d2]
         rw[HR.out]
         exact⟨⟨rfl,rfl⟩,gF⟩
        | succ g =>
         have hk:k<R.length:=by omega
         have hd:decide ((k:Int)<(R.length:Int))=true:=by simp;omega
         have hk1:(0:Int)≤(k:Int):=by omega
         have hk2:(k:Int)<(R.length:Int):=by omega
         have jC:(k:Int)≤1000:=by omega
         have qh:(T.length:Int)≤1000:=by omega
         obtain⟨t,hte⟩:∃e,R[k]? = some e:=⟨_,List.getElem?_eq_getElem hk⟩
         have hxe:R[k]=t:=by rw[List.getElem?_eq_getElem hk] at hte;exact Option.some.inj hte
         rw[List.drop_eq_getElem_cons hk,hxe,zJ] at hpp
         obtain⟨r,hr⟩:∃r,r=uL T t:=⟨_,rfl⟩
         obtain⟨b,off,cap,so,sc,e,hlt,hst,g0,g1,g2⟩:=HRU.out.get hte
         simp only[Value.slice.injEq,true_and] at e
         obtain⟨rfl,rfl⟩:=e
         have m0:=(hck.aV.cell hlt).trans g0
         have m1:=(hck.aV.cell hlt).trans g1
         have m2:=(hck.aV.cell hlt).trans g2
         obtain⟨at9,Pn⟩:∃x:Int,x=(T.length:Int)+(k:Int):=⟨_,rfl⟩
         have hcall:=fun w' (h:CK w w' (.slice o7 T.length c7) (.slice (some ⟨b,off,none⟩) R.length c9) at9)=>MV w' T (.slice o7 T.length c7) (.slice (some ⟨b,off,none⟩) R.length c9) _ at9 (w.heap.size+1+1+1) t ⟨HT.out.moved h.aV,iH,⟨_,_,_,rfl⟩,h.ha⟩ (hst.moved h.aV) (Yi.out k t hte).1 (Yi.out k t hte).2
         rw[←hr] at hcall hpp
         rw[←Pn] at hpp
         obtain⟨cls,fr,sts⟩:=t
         simp only at m0 m1 m2 hcall
         obtain⟨sl,hsl⟩:∃n,n=sts.length:=⟨_,rfl⟩
         rw[←hsl] at m2 hcall
         have zz0:w.heap.size<wo.heap.size:=by omega
         have zz3:w.heap.size+1+1+1<wo.heap.size:=by omega
         have zz4:w.heap.size+1+1+1+1<wo.heap.size:=by omega
         have rU:=Lib.hid hcall
         have gq:=Lib.hid hpp
         have HAT:=Lib.hid Pn
         clear hcall hpp hr hte hxe hck g0 g1 g2 hst Pn hsl
         go_wp2_with fail
         rw[←HAT.out]
         have p9:=Lib.hid ((BN.out.set at9).moved (ah (Below.refl _ _) (.cells #[.int .i64 cls,.bool fr,.slice so sl sc] 63)))
         refine(rU.out _ p9.out).mono ?_
         intro e w3 hg
         unfold bH at hg
         cases r with
         | some cd =>
          obtain⟨rfl,hb⟩:=hg
          have vQ:=Lib.hid (p9.out.moved hb)
          clear hb
          have HR:=Lib.hid (HE.out.symm.trans (MX.out.trans (by rw[gq.out])))
          go_wp2
          refine leaves_cons (f:=59) (args:=#[.pointer (some ⟨w.heap.size+1,0,none⟩),.pointer (some ⟨w.heap.size+1+1,0,none⟩)]) (by simp) (by simp[go_sem]) ?_
          refine(pQ _ _ cd at9 _ _ _ vQ.out.h1 vQ.out.h2 (by omega)).mono ?_
          rintro e u' w7 ⟨rfl,rfl,K0,K1,eU⟩
          have jS:Below w.heap.size w w7:=vQ.out.aV.trans (eU _ (by omega) (by omega) (by have:=vQ.out.aV.size;omega))
          obtain⟨c0,z0⟩:=aj K0
          obtain⟨c1,z1⟩:=aj K1
          simp[Leaves,settle,results,Tryz.results25,go_sem,c0,c1]
          rw[HR.out]
          exact⟨⟨rfl,rfl⟩,jS⟩
         | none =>
          obtain⟨rfl,hb⟩:=hg
          have vQ:=Lib.hid (p9.out.moved hb)
          clear hb c0 c1 c2 c3 c4 c5 z5 hsz
          go_wp2_with fail
          go_roundg g
          case measure=>omega
          case rel=>exact⟨k+1,_,by omega,by go_num,vQ.out,gq.out⟩
     · have d8 : decide ((R.length : Int) ≤ (8 : Int)) = false := by simp; omega
       have MX:=Lib.hid (HE2.out.trans (if_pos Rc))
       clear HE2 Rc
       go_wp2_with fail
       have p9:=Lib.hid (BN.out.set (T.length:Int))
       refine(gH _ 6 _ _ p9.out.ha).mono ?_
       rintro e w3 ⟨rfl,rfl⟩
       have HR:=Lib.hid (HE.out.symm.trans MX.out)
       go_wp2
       refine leaves_cons (f:=59) (args:=#[.pointer (some ⟨w.heap.size+1,0,none⟩),.pointer (some ⟨w.heap.size+1+1,0,none⟩)]) (by simp) (by simp[go_sem]) ?_
       refine(pQ _ _ 6 (T.length:Int) _ _ _ p9.out.h1 p9.out.h2 (by omega)).mono ?_
       rintro e u' w7 ⟨rfl,rfl,K0,K1,eU⟩
       have jS:Below w.heap.size w w7:=p9.out.aV.trans (eU _ (by omega) (by omega) (by have:=p9.out.aV.size;omega))
       obtain⟨c0,z0⟩:=aj K0
       obtain⟨c1,z1⟩:=aj K1
       simp[Leaves,settle,results,Tryz.results25,go_sem,c0,c1]
       rw[HR.out]
       exact⟨⟨rfl,rfl⟩,jS⟩
    | succ g =>
     have hk:k<T.length:=by omega
     have hd:decide ((k:Int)<(T.length:Int))=true:=by simp;omega
     have hk1:(0:Int)≤(k:Int):=by omega
     have hk2:(k:Int)<(T.length:Int):=by omega
     have jC:(k:Int)≤1000:=by omega
     obtain⟨t,hte⟩:∃e,T[k]? = some e:=⟨_,List.getElem?_eq_getElem hk⟩
     have hxe:T[k]=t:=by rw[List.getElem?_eq_getElem hk] at hte;exact Option.some.inj hte
     rw[List.drop_eq_getElem_cons hk,hxe,BK] at hpp
     obtain⟨r,hr⟩:∃r,r=nA T k t:=⟨_,rfl⟩
     have hcall:=fun w' (h:CK w w' (.slice o7 T.length c7) (.slice o9 R.length c9) (k:Int))=>Po T k t _ (.slice o9 R.length c9) (k:Int) (w.heap.size+1+1+1) w' (HT.out.moved h.aV) iH ⟨_,_,_,rfl⟩ hte (Yh.out k t hte).1 (Yh.out k t hte).2 h.ha
     rw[←hr] at hcall hpp
     have rU:=Lib.hid hcall
     have gq:=Lib.hid hpp
     clear hcall hpp hr hte hxe hck
     go_wp2_with fail
     have p9:=Lib.hid (BN.out.set (k:Int))
     refine(rU.out _ p9.out).mono ?_
     intro e w3 hg
     unfold bH at hg
     cases r with
     | some cd =>
      obtain⟨rfl,hb⟩:=hg
      have vQ:=Lib.hid (p9.out.moved hb)
      clear hb
      have HR:=Lib.hid (HE.out.symm.trans (VA.out.trans (by rw[gq.out])))
      go_wp2
      refine leaves_cons (f:=59) (args:=#[.pointer (some ⟨w.heap.size+1,0,none⟩),.pointer (some ⟨w.heap.size+1+1,0,none⟩)]) (by simp) (by simp[go_sem]) ?_
      refine(pQ _ _ cd (k:Int) _ _ _ vQ.out.h1 vQ.out.h2 (by omega)).mono ?_
      rintro e u' w7 ⟨rfl,rfl,K0,K1,eU⟩
      have jS:Below w.heap.size w w7:=vQ.out.aV.trans (eU _ (by omega) (by omega) (by have:=vQ.out.aV.size;omega))
      obtain⟨c0,z0⟩:=aj K0
      obtain⟨c1,z1⟩:=aj K1
      simp[Leaves,settle,results,Tryz.results25,go_sem,c0,c1]
      rw[HR.out]
      exact⟨⟨rfl,rfl⟩,jS⟩
     | none =>
      obtain⟨rfl,hb⟩:=hg
      have vQ:=Lib.hid (p9.out.moved hb)
      clear hb c0 c1 c2 c3 c4 c5 z5 hsz
      go_wp2_with fail
      go_roundg g
      case measure=>omega
      case rel=>exact⟨k+1,_,by omega,by go_num,vQ.out,gq.out⟩
 · have hR : jd T R = (6, 0) := by unfold jd; rw [if_pos hl1]
   have d12:decide ((1:Int)≤(T.length:Int))=false∨(decide ((1:Int)≤(T.length:Int))=true∧decide ((T.length:Int)≤(16:Int))=false):=by
    by_cases h:1≤T.length
    · right;exact⟨by simp;omega,by simp;omega⟩
    · left;simp;omega
   have wZ:=Lib.hid hR
   clear hl1 hR
   rcases d12 with d1|⟨d1,d2⟩
   all_goals
    go_enter_defers Tryz.func25,Tryz.ntmps25
    go_wp2_with fail
    obtain⟨W,hW⟩:∃W,W=((((w.alloc (.cells #[.slice o7 T.length c7,.slice o9 R.length c9] 26)).alloc (.cells #[.int .i64 0] 3)).alloc (.cells #[.int .i64 0] 3)).alloc (.cells #[.int .i64 0] 3)).alloc (.cells #[.slice o7 T.length c7,.slice o9 R.length c9,eY (w.heap.size+1+1+1)] 119):=⟨_,rfl⟩
    have BM:=Lib.hid (CK.start w W _ _ hW)
    unfold eY at hW
    rw[←hW]
    refine(gH _ 6 0 _ BM.out.ha).mono ?_
    rintro e w3 ⟨rfl,rfl⟩
    clear hW
    have HR:=Lib.hid (wZ.out)
    go_wp2
    refine leaves_cons (f:=59) (args:=#[.pointer (some ⟨w.heap.size+1,0,none⟩),.pointer (some ⟨w.heap.size+1+1,0,none⟩)]) (by simp) (by simp[go_sem]) ?_
    refine(pQ _ _ 6 0 _ _ _ BM.out.h1 BM.out.h2 (by omega)).mono ?_
    rintro e u' w7 ⟨rfl,rfl,K0,K1,eU⟩
    have jS:Below w.heap.size w w7:=BM.out.aV.trans (eU _ (by omega) (by omega) (by have:=BM.out.aV.size;omega))
    obtain⟨c0,z0⟩:=aj K0
    obtain⟨c1,z1⟩:=aj K1
    simp[Leaves,settle,results,Tryz.results25,go_sem,c0,c1]
    rw[HR.out]
    exact⟨⟨rfl,rfl⟩,jS⟩
namespace PT
mutual
def cnt:PT→Nat→Nat→Nat→Nat×Nat
 | .mk _ _ _ l,deep,n,d=>VB l (deep+1) (n+1) (max d deep)
def VB:List PT→Nat→Nat→Nat→Nat×Nat
 | [],_,n,d=>(n,d)
 | e::l,deep,n,d=>VB l deep (cnt e deep n d).1 (cnt e deep n d).2
end
end PT
structure zK (w w':World) (p q:Nat):Prop where
 os:w'.os=w.os
 tape:w'.tape=w.tape
 output:w'.output=w.output
 size:w.heap.size≤w'.heap.size
 block:∀k,k<w.heap.size→k≠p→k≠q→w'.heap[k]? = w.heap[k]?
theorem zK.refl (w:World) (p q:Nat):zK w w p q:=⟨rfl,rfl,rfl,Nat.le_refl _,fun _ _ _ _=>rfl⟩
theorem zK.trans {a b c:World} {p q:Nat} (h:zK a b p q) (k:zK b c p q):zK a c p q:=
 ⟨k.os.trans h.os,k.tape.trans h.tape,k.output.trans h.output,Nat.le_trans h.size k.size,fun j hj hp hq=>by have:=h.size;rw[k.block j (by omega) hp hq,h.block j hj hp hq]⟩
theorem zK.of {w w':World} {p q:Nat} (h:Below w.heap.size w w'):zK w w' p q:=⟨h.os,h.tape,h.output,h.size,fun k hk _ _=>h.block k hk⟩
theorem zK.get {w w':World} {p q k:Nat} {o:Obj} (h:zK w w' p q) (hk:w.heap[k]? = some o) (h1:k≠p) (h2:k≠q):w'.heap[k]? = some o:=by rw[h.block k (dK hk) h1 h2];exact hk
def Zb {α:Type} (f:α→α→Bool) (l m:List α):Bool:=decide (l.length=m.length) && (List.zipWith f l m).all id
def TK.same (a b:TK):Bool:=decide (a.name=b.name) && (decide (a.kind=b.kind) && (decide (a.cls=b.cls) && a.re.same b.re))
def ST.same (a b:ST):Bool:=decide (a.calls=b.calls) && a.p.same b.p
def RU.same (a b:RU):Bool:=decide (a.cls=b.cls) && ((a.free == b.free) && Zb ST.same a.steps b.steps)
theorem zu (T:List TK) (R:List RU) (tv rv:Value) (w:World) (hT:iO w tv T) (hR:jE w rv R) (iH:T.length≤1000) (hRl:R.length≤1000) (fJ:oK T) (fK:oL R) :
 Calls Tryz.prog 11 #[.agg #[tv,rv]] w fun e w'=>e=.returned (.bool (decide ((jd T R).1=0)))∧Below w.heap.size w w':=by
 obtain⟨o7,c7,Vk,Vl,Vm,Vn,Vo,Vp,Vq,Vr,Vs,Vt,rfl,-⟩:=hT.all
 obtain⟨o5,c5,rfl⟩:=hR.form
 have hc:=fun w' (hbb:Below w.heap.size w w')=>oh T R _ _ w' (hT.moved hbb) (hR.moved hbb) iH hRl fJ fK
 obtain⟨a,ha⟩:∃a,a=(jd T R).1:=⟨_,rfl⟩
 obtain⟨b,hb⟩:∃a,a=(jd T R).2:=⟨_,rfl⟩
 rw[←ha,←hb] at hc
 rw[←ha]
 have HC:=Lib.hid hc
 clear hc ha hb hT hR fJ fK
 have hd:(a == 0)=decide (a=0):=by by_cases h:a=0<;>simp[h]
 have HD:=Lib.hid hd
 clear hd
 go_enter Tryz.func11,Tryz.ntmps11
 go_wp2_with fail
 refine(HC.out _ (ah (Below.refl _ _) _)).mono ?_
 rintro e w2 ⟨rfl,hb2⟩
 have HB:=Lib.hid (ak (ah (Below.refl _ _) _) hb2)
 clear hb2
 go_wp2_with fail
 go_ret
 exact⟨by first|rfl|(rw[HD.out])|(rw[←HD.out];rfl),HB.out⟩
end Go.Proofs.YtfkmajjgkdjncaaGreatDoor
