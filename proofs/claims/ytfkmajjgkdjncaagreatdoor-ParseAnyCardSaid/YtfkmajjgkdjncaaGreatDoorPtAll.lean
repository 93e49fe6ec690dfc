/- Merged. -/
import Derived.Test.YtfkmajjgkdjncaaGreatDoorPaFail
import Derived.Test.YtfkmajjgkdjncaaGreatDoorPsClass
import Derived.Test.YtfkmajjgkdjncaaGreatDoorPsAll
set_option linter.unusedVariables false
set_option linter.unusedSimpArgs false
set_option maxHeartbeats 4000000
set_option maxRecDepth 100000
namespace Go.Proofs.YtfkmajjgkdjncaaGreatDoor
open Go.RowKit De Wd
def Numeral (b:ByteArray):Prop:=b.size≤18→∃n:Int,0≤n∧Lib.atoi b.data.toList=some n
structure lS (N:Nat) (U:List Uw) (V:Pm.Ws):Prop where
 v:iq V U
 pl:∀(k:Nat) (q:Uw),U[k]? = some q→q.2.2≤N
 dg:∀(k:Nat) (q:Uw),U[k]? = some q→q.1=2→Numeral q.2.1
 sz:∀(k:Nat) (q:Uw),U[k]? = some q→q.2.1.size≤1000
 len:U.length≤1000
theorem lS.word {N k n:Nat} {U:List Uw} {V:Pm.Ws} {a:Int} {b:ByteArray} (h:lS N U V) (hq:U[k]? = some (a,b,n)) (h0:a≠0):V[k]? = some (a,sb b):=by
 have h1:=(List.getElem?_eq_some_iff.1 hq).1
 have h2:=h.v.len
 by_cases hk:k<V.length
 · exact h.v.get k _ hq hk
 · have e : k = V.length := by omega
   subst e
   exact absurd (h.v.fin _ hq) h0
theorem lS.Ke {N k n:Nat} {U:List Uw} {V:Pm.Ws} {a:Int} {b:ByteArray} {c:UInt8} (h:lS N U V) (hq:U[k]? = some (a,b,n)) (ht:tst 3 ⟨#[c]⟩ (a,b,n)=true):Pm.sg V k (c.toNat:Int):=by
 have:=cZ h.v hq c
 rw[ht] at this
 exact of_decide_eq_true this.symm
def PB (N p:Nat) (w:World) (x:Ending) (w':World):Prop:=∃(c:Int) (z:Nat),x=dL c z∧c≠0∧c≠2∧z≤N∧Ch w w' p
theorem PB.mk {N p:Nat} {w w':World} {c:Int} {z:Nat} (h1:c≠0) (h2:c≠2) (h3:z≤N) (h:Ch w w' p):PB N p w (dL c z) w':=⟨c,z,rfl,h1,h2,h3,h⟩
theorem jg (N:Nat) (p k d:Nat) (U:List Uw) (wv tv rv ti ri:Value) (kk:Int) (s:ByteArray) (b1 b2:Nat) (q:Uw) (w:World) (hk:kk≠0) (h:PI w p U k d wv tv rv ti ri) (hq:U[k]? = some q) (hb:Bx w b1 b2 kk s) (hb1:b1≠p) (hb2:b2≠p) (hn:q.2.2≤N) :
 Calls Tryz.prog 57 #[.pointer (some ⟨p,0,none⟩),.func (Fn.func 90) #[] #[.pointer (some ⟨b1,0,none⟩),.pointer (some ⟨b2,0,none⟩)]] w fun x w'=>PB N p w x w'∨(tst kk s q=true∧x=.returned (iZ q)∧Ch w w' p∧PI w' p U (k+1) d wv tv rv ti ri):=by
 have hlt:=h.lt
 have h0:=h
 have hA:=h.moved (ah (Below.refl _ _) (.cells #[.int .i64 0,.string ⟨#[]⟩,.int .i64 0] 72))
 obtain⟨W0,hW0⟩:∃W0,W0=w.alloc (.cells #[.int .i64 0,.string ⟨#[]⟩,.int .i64 0] 72):=⟨_,rfl⟩
 have hbW:Below w.heap.size w W0:=by rw[hW0];exact ah (Below.refl _ _) _
 have hr0:W0.heap[w.heap.size]? = some (.cells #[.int .i64 0,.string ⟨#[]⟩,.int .i64 0] 72 (0,0)):=by rw[hW0];exact heap_alloc_new w _
 rw[←hW0] at hA
 have hpk:=bD p k d U wv tv rv ti ri q W0 hA hq
 have HW0:=Lib.hid hW0
 have Hu:=Lib.hid hpk
 have HA:=Lib.hid (And.intro hA (And.intro hr0 (And.intro hbW (hb.moved hbW))))
 have H0:=Lib.hid h0
 have HQ:=Lib.hid hq
 clear h h0 hA hW0 hpk hbW hr0 hb hq
 go_enter Tryz.func57,Tryz.ntmps57
 go_wp2_with (with_reducible rw[←HW0.out])
 refine Hu.out.mono ?_
 rintro x w1 ⟨rfl,hb1'⟩
 have hbx:Below w1.heap.size w1 (w1.alloc (.cells #[.int .i64 q.1,.string q.2.1,.int .i64 q.2.2] 72)):=ah (Below.refl _ _) _
 have je:=lt_of_some HA.out.2.1
 have H1:=Lib.hid (And.intro ((HA.out.1.moved hb1').moved hbx) (And.intro (aB hbx (aB hb1' HA.out.2.1)) (And.intro (ak HA.out.2.2.1 (ak hb1' hbx)) (And.intro ((HA.out.2.2.2.moved hb1').moved hbx) (heap_alloc_new w1 (.cells #[.int .i64 q.1,.string q.2.1,.int .i64 q.2.2] 72))))))
 have hz1:=hb1'.size
 clear hb1' hbx
 go_wp2_with fail
 refine(bV p k d U wv tv rv ti ri kk s b1 b2 q _ hk H1.out.1 HQ.out H1.out.2.2.2.1 hb1 hb2).mono ?_
 rintro x w2 ⟨rfl,hc2,hp2⟩
 cases jG:tst kk s q with
 | true =>
  rw[jG,if_pos rfl] at hp2
  have hg2:=(hc2.block _ (lt_of_some H1.out.2.2.2.2) (by omega)).trans H1.out.2.2.2.2
  have hr2:=(hc2.block _ (lt_of_some H1.out.2.1) (by omega)).trans H1.out.2.1
  obtain⟨⟨c0,c1,c2⟩,f0,f1,f2⟩:=ay hg2
  obtain⟨⟨d0,d1,d2⟩,g0,g1,g2⟩:=ay hr2
  have H2:=Lib.hid (And.intro hp2 (And.intro ((Ch.of H1.out.2.2.1).trans hc2) hr2))
  clear hp2 hc2 hg2 hr2
  go_wp2_with fail
  obtain⟨W9,bP⟩:∃W9,W9=((w2.setCell ⟨w.heap.size,0,none⟩ (.int .i64 q.1)).setCell ⟨w.heap.size,1,none⟩ (.string q.2.1)).setCell ⟨w.heap.size,2,none⟩ (.int .i64 q.2.2):=⟨_,rfl⟩
  rw[←bP]
  have iy:PI W9 p U (k+1) d wv tv rv ti ri:=by rw[bP];exact H0.out.aL (H0.out.aL (H0.out.aL H2.out.1 (Nat.le_refl _)) (Nat.le_refl _)) (Nat.le_refl _)
  have bZ:Ch w W9 p:=by rw[bP];exact((H2.out.2.1.aN (Nat.le_refl _)).aN (Nat.le_refl _)).aN (Nat.le_refl _)
  have gL:W9.heap[w.heap.size]? = some (.cells #[.int .i64 q.1,.string q.2.1,.int .i64 q.2.2] 72 (0,0)):=by
   rw[bP];have:=H2.out.2.2;simp[World.setCell,Array.getElem?_modify,this]
  clear bP c0 c1 c2 f0 f1 f2 d0 d1 d2 g0 g1 g2
  obtain⟨⟨d0,d1,d2⟩,g0,g1,g2⟩:=ay gL
  refine bodyPost_ret (v:=iZ q) (by simp[results,Tryz.results57,go_sem,d0,d1,d2,g0,g1,g2]) rfl (.inr ⟨jG,rfl,bZ,iy⟩)
 | false =>
  have hg2:=(hc2.block _ (lt_of_some H1.out.2.2.2.2) (by omega)).trans H1.out.2.2.2.2
  obtain⟨⟨c0,c1,c2⟩,f0,f1,f2⟩:=ay hg2
  have HF:=Lib.hid (PB.mk (c:=3) (by decide) (by decide) hn ((Ch.of H1.out.2.2.1).trans hc2))
  clear hp2 hc2 hg2
  go_wp2_with fail
  exact⟨rfl,.inl HF.out⟩
theorem pV (N:Nat) (p k d:Nat) (U:List Uw) (wv tv rv ti ri:Value) (kk:Int) (b1:Nat) (q:Uw) (w:World) (hk:kk≠0) (h:PI w p U k d wv tv rv ti ri) (hq:U[k]? = some q) (hb:w.heap[b1]? = some (.cells #[.int .i64 kk] 3 (0,0))) (hn:q.2.2≤N) :
 Calls Tryz.prog 57 #[.pointer (some ⟨p,0,none⟩),.func (Fn.func 89) #[] #[.pointer (some ⟨b1,0,none⟩)]] w fun x w'=>PB N p w x w'∨(iU kk q=true∧x=.returned (iZ q)∧Ch w w' p∧PI w' p U (k+1) d wv tv rv ti ri):=by
 have hlt:=h.lt
 have h0:=h
 have hA:=h.moved (ah (Below.refl _ _) (.cells #[.int .i64 0,.string ⟨#[]⟩,.int .i64 0] 72))
 obtain⟨W0,hW0⟩:∃W0,W0=w.alloc (.cells #[.int .i64 0,.string ⟨#[]⟩,.int .i64 0] 72):=⟨_,rfl⟩
 have hbW:Below w.heap.size w W0:=by rw[hW0];exact ah (Below.refl _ _) _
 have hr0:W0.heap[w.heap.size]? = some (.cells #[.int .i64 0,.string ⟨#[]⟩,.int .i64 0] 72 (0,0)):=by rw[hW0];exact heap_alloc_new w _
 rw[←hW0] at hA
 have hpk:=bD p k d U wv tv rv ti ri q W0 hA hq
 have HW0:=Lib.hid hW0
 have Hu:=Lib.hid hpk
 have HA:=Lib.hid (And.intro hA (And.intro hr0 (And.intro hbW (aB hbW hb))))
 have H0:=Lib.hid h0
 have HQ:=Lib.hid hq
 clear h h0 hA hW0 hpk hbW hr0 hb hq
 go_enter Tryz.func57,Tryz.ntmps57
 go_wp2_with (with_reducible rw[←HW0.out])
 refine Hu.out.mono ?_
 rintro x w1 ⟨rfl,hb1'⟩
 have hbx:Below w1.heap.size w1 (w1.alloc (.cells #[.int .i64 q.1,.string q.2.1,.int .i64 q.2.2] 72)):=ah (Below.refl _ _) _
 have je:=lt_of_some HA.out.2.1
 have H1:=Lib.hid (And.intro ((HA.out.1.moved hb1').moved hbx) (And.intro (aB hbx (aB hb1' HA.out.2.1)) (And.intro (ak HA.out.2.2.1 (ak hb1' hbx)) (And.intro (aB hbx (aB hb1' HA.out.2.2.2)) (heap_alloc_new w1 (.cells #[.int .i64 q.1,.string q.2.1,.int .i64 q.2.2] 72))))))
 have hz1:=hb1'.size
 clear hb1' hbx
 go_wp2_with fail
 refine(oO p k d U wv tv rv ti ri kk b1 q _ hk H1.out.1 HQ.out H1.out.2.2.2.1).mono ?_
 rintro x w2 ⟨rfl,hc2,hp2⟩
 cases jG:iU kk q with
 | true =>
  rw[jG,if_pos rfl] at hp2
  have hg2:=(hc2.block _ (lt_of_some H1.out.2.2.2.2) (by omega)).trans H1.out.2.2.2.2
  have hr2:=(hc2.block _ (lt_of_some H1.out.2.1) (by omega)).trans H1.out.2.1
  obtain⟨⟨c0,c1,c2⟩,f0,f1,f2⟩:=ay hg2
  obtain⟨⟨d0,d1,d2⟩,g0,g1,g2⟩:=ay hr2
  have H2:=Lib.hid (And.intro hp2 (And.intro ((Ch.of H1.out.2.2.1).trans hc2) hr2))
  clear hp2 hc2 hg2 hr2
  go_wp2_with fail
  obtain⟨W9,bP⟩:∃W9,W9=((w2.setCell ⟨w.heap.size,0,none⟩ (.int .i64 q.1)).setCell ⟨w.heap.size,1,none⟩ (.string q.2.1)).setCell ⟨w.heap.size,2,none⟩ (.int .i64 q.2.2):=⟨_,rfl⟩
  rw[←bP]
  have iy:PI W9 p U (k+1) d wv tv rv ti ri:=by rw[bP];exact H0.out.aL (H0.out.aL (H0.out.aL H2.out.1 (Nat.le_refl _)) (Nat.le_refl _)) (Nat.le_refl _)
  have bZ:Ch w W9 p:=by rw[bP];exact((H2.out.2.1.aN (Nat.le_refl _)).aN (Nat.le_refl _)).aN (Nat.le_refl _)
  have gL:W9.heap[w.heap.size]? = some (.cells #[.int .i64 q.1,.string q.2.1,.int .i64 q.2.2] 72 (0,0)):=by
   rw[bP];have:=H2.out.2.2;simp[World.setCell,Array.getElem?_modify,this]
  clear bP c0 c1 c2 f0 f1 f2 d0 d1 d2 g0 g1 g2
  obtain⟨⟨d0,d1,d2⟩,g0,g1,g2⟩:=ay gL
  refine bodyPost_ret (v:=iZ q) (by simp[results,Tryz.results57,go_sem,d0,d1,d2,g0,g1,g2]) rfl (.inr ⟨jG,rfl,bZ,iy⟩)
 | false =>
  have hg2:=(hc2.block _ (lt_of_some H1.out.2.2.2.2) (by omega)).trans H1.out.2.2.2.2
  obtain⟨⟨c0,c1,c2⟩,f0,f1,f2⟩:=ay hg2
  have HF:=Lib.hid (PB.mk (c:=3) (by decide) (by decide) hn ((Ch.of H1.out.2.2.1).trans hc2))
  clear hp2 hc2 hg2
  go_wp2_with fail
  exact⟨rfl,.inl HF.out⟩
theorem Ef (N p k d:Nat) (U:List Uw) (V:Pm.Ws) (hU:lS N U V) (wv tv rv ti ri:Value) (c:UInt8) (w:World) (h:PI w p U k d wv tv rv ti ri) (hd:d≤40) :
 Calls Tryz.prog 193 #[.pointer (some ⟨p,0,none⟩),.string ⟨#[c]⟩] w fun x w'=>PB N p w x w'∨((d<40∧Pm.sg V k (c.toNat:Int))∧x=.returned (.tuple #[])∧Ch w w' p∧PI w' p U (k+1) (d+1) wv tv rv ti ri):=by
 obtain⟨qq,hqq⟩:=hU.v.at h.le
 have HP:=Lib.hid h
 have hn:=hU.pl _ _ hqq
 have HQ:=Lib.hid hqq
 have dw:=h.lt
 have hd0:(0:Int)≤(d:Int):=by omega
 have hd1:(d:Int)≤40:=by omega
 clear h hqq
 go_enter Tryz.func193,Tryz.ntmps193
 go_wp2_with fail
 refine(aH 3 ⟨#[c]⟩ _).mono ?_
 rintro x Co ⟨b11,yP,rfl,hbx,hbt⟩
 have HT1:=Lib.hid (And.intro (HP.out.moved hbt) (And.intro hbx hbt))
 clear hbx hbt
 go_wp2_with fail
 refine(jg N p k d U wv tv rv ti ri 3 ⟨#[c]⟩ b11 yP qq _ (by decide) HT1.out.1 HQ.out HT1.out.2.1 ?_ ?_ hn).mono ?_
 · intro e;have h1:=HT1.out.1.hh;rw[←e,HT1.out.2.1.h1] at h1;cases h1
 · intro e;have h1:=HT1.out.1.hh;rw[←e,HT1.out.2.1.h2] at h1;cases h1
 rintro x w1 (hbad|⟨jG,rfl,hc1,hx1⟩)
 · obtain ⟨c9, z9, rfl, aO, aP, aQ, aR⟩ := hbad
   have HF:=Lib.hid (PB.mk aO aP aQ ((Ch.of HT1.out.2.2).trans aR))
   clear aO aP aQ aR
   go_wp2_with fail
   exact⟨rfl,.inl HF.out⟩
 have WE:=Lib.hid (hU.Ke HQ.out jG)
 clear jG
 replace hc1:=(Ch.of (p:=p) HT1.out.2.2).trans hc1
 by_cases hdl:d<40
 · have t1 : ((d : Int) == 40) = false := by simp; omega
   have t2:(d == 40)=false:=by simp;omega
   have hbel:=ah (Below.refl w1.heap.size w1) (.cells #[.int .i64 qq.1,.string qq.2.1,.int .i64 qq.2.2] 72)
   have hx2:=hx1.moved hbel
   obtain⟨⟨c0,c1,c2,c3,c4,c5,c6⟩,f0,f1,f2,f3,f4,f5,f6⟩:=aM hx2.hh
   have hx3:PI ((w1.alloc (.cells #[.int .i64 qq.1,.string qq.2.1,.int .i64 qq.2.2] 72)).setCell ⟨p,2,none⟩ (.int .i64 ((d:Int)+1))) p U (k+1) (d+1) wv tv rv ti ri:=by
    have h9:=hx2.deep (d':=d+1)
    rwa [show((d+1:Nat):Int)=(d:Int)+1 by omega] at h9
   obtain⟨W2,hW2⟩:∃W2,W2=w1.alloc (.cells #[.int .i64 qq.1,.string qq.2.1,.int .i64 qq.2.2] 72):=⟨_,rfl⟩
   rw[←hW2] at hx3 c0 c1 c2 c3 c4 c5 c6 f0 f1 f2 f3 f4 f5 f6
   have HC:=Lib.hid (show Ch w (W2.setCell ⟨p,2,none⟩ (.int .i64 ((d:Int)+1))) p from((hc1.trans (by rw[hW2];exact Ch.of hbel)).trans (Ch.set _ _ _ _)))
   have WG:=Lib.hid hx3
   have HW2:=Lib.hid hW2
   clear hx1 hc1 hbel hx2 hx3 hW2
   go_wp2_with (with_reducible rw[←HW2.out])
   go_end0
   exact .inr ⟨⟨hdl,WE.out⟩,rfl,HC.out,WG.out⟩
 · have t1 : ((d : Int) == 40) = true := by simp; omega
   have t2:(d == 40)=true:=by simp;omega
   have hbel:=ah (Below.refl w1.heap.size w1) (.cells #[.int .i64 qq.1,.string qq.2.1,.int .i64 qq.2.2] 72)
   obtain⟨⟨c0,c1,c2,c3,c4,c5,c6⟩,f0,f1,f2,f3,f4,f5,f6⟩:=aM (hx1.moved hbel).hh
   have hpw:=hx1.lt
   have hnp:¬p=w1.heap.size:=by omega
   have HF:=Lib.hid (PB.mk (c:=7) (by decide) (by decide) hn (hc1.trans (Ch.of hbel)))
   clear hx1 hc1 hbel
   go_wp2_with fail
   exact⟨rfl,.inl HF.out⟩
theorem Eh (N p k d:Nat) (U:List Uw) (V:Pm.Ws) (hU:lS N U V) (wv tv rv ti ri:Value) (c:UInt8) (w:World) (h:PI w p U k (d+1) wv tv rv ti ri) (hd:d<40) :
 Calls Tryz.prog 194 #[.pointer (some ⟨p,0,none⟩),.string ⟨#[c]⟩] w fun x w'=>PB N p w x w'∨(Pm.sg V k (c.toNat:Int)∧x=.returned (.tuple #[])∧Ch w w' p∧PI w' p U (k+1) d wv tv rv ti ri):=by
 obtain⟨qq,hqq⟩:=hU.v.at h.le
 have HP:=Lib.hid h
 have hn:=hU.pl _ _ hqq
 have HQ:=Lib.hid hqq
 have hd0:(0:Int)≤(d:Int):=by omega
 have hd1:(d:Int)<40:=by omega
 clear h hqq
 go_enter Tryz.func194,Tryz.ntmps194
 go_wp2_with fail
 refine(aH 3 ⟨#[c]⟩ _).mono ?_
 rintro x Co ⟨b11,yP,rfl,hbx,hbt⟩
 have HT1:=Lib.hid (And.intro (HP.out.moved hbt) (And.intro hbx hbt))
 clear hbx hbt
 go_wp2_with fail
 refine(jg N p k (d+1) U wv tv rv ti ri 3 ⟨#[c]⟩ b11 yP qq _ (by decide) HT1.out.1 HQ.out HT1.out.2.1 ?_ ?_ hn).mono ?_
 · intro e;have h1:=HT1.out.1.hh;rw[←e,HT1.out.2.1.h1] at h1;cases h1
 · intro e;have h1:=HT1.out.1.hh;rw[←e,HT1.out.2.1.h2] at h1;cases h1
 rintro x w1 (hbad|⟨jG,rfl,hc1,hx1⟩)
 · obtain ⟨c9, z9, rfl, aO, aP, aQ, aR⟩ := hbad
   have HF:=Lib.hid (PB.mk aO aP aQ ((Ch.of HT1.out.2.2).trans aR))
   clear aO aP aQ aR
   go_wp2_with fail
   exact⟨rfl,.inl HF.out⟩
 have WE:=Lib.hid (hU.Ke HQ.out jG)
 clear jG
 replace hc1:=(Ch.of (p:=p) HT1.out.2.2).trans hc1
 obtain⟨⟨c0,c1,c2,c3,c4,c5,c6⟩,f0,f1,f2,f3,f4,f5,f6⟩:=aM hx1.hh
 have HX:=Lib.hid hx1
 have HC:=Lib.hid hc1
 clear hx1 hc1
 go_wp2_with fail
 try simp only[show((d+1:Nat):Int)-1=(d:Int) by omega]
 go_end0
 exact .inr ⟨WE.out,rfl,HC.out.trans (Ch.set _ _ _ _),HX.out.deep⟩
theorem pW.bad {V:Pm.Ws} {P:Nat→PT→Nat→Prop} {a:PT} {k:Nat} (h:¬ ∃e k2,pW V P a k e k2):Pm.jq V k∧((¬ ∃b k1,P k b k1)∨∃b k1,P k b k1∧¬ ∃e k2,pW V P (.mk 5 [] [] [a,b]) k1 e k2):=by
 have hc:Pm.jq V k:=Classical.byContradiction fun hn=>h ⟨_,_,.stop hn⟩
 refine⟨hc,?_⟩
 by_cases hp:∃b k1,P k b k1
 · obtain ⟨b, k1, hp⟩ := hp
   exact .inr ⟨b,k1,hp,fun ⟨e,k2,hr⟩=>h ⟨e,k2,.go hc hp hr⟩⟩
 · exact .inl hp
theorem pX.bad {V:Pm.Ws} {P:Nat→PT→Nat→Prop} {a:PT} {k:Nat} (h:¬ ∃e k2,pX V P a k e k2):Pm.sg V k 124∧((¬ ∃b k1,P (k+1) b k1)∨∃b k1,P (k+1) b k1∧¬ ∃e k2,pX V P (.mk 6 [] [] [a,b]) k1 e k2):=by
 have hc:Pm.sg V k 124:=Classical.byContradiction fun hn=>h ⟨_,_,.stop hn⟩
 refine⟨hc,?_⟩
 by_cases hp:∃b k1,P (k+1) b k1
 · obtain ⟨b, k1, hp⟩ := hp
   exact .inr ⟨b,k1,hp,fun ⟨e,k2,hr⟩=>h ⟨e,k2,.go hc hp hr⟩⟩
 · exact .inl hp
theorem Lm (N p k d:Nat) (U:List Uw) (wv tv rv ti ri:Value) (w:World) (h:PI w p U k d wv tv rv ti ri)
 (hat:∀w,PI w p U k d wv tv rv ti ri→Calls Tryz.prog 164 #[.pointer (some ⟨p,0,none⟩)] w fun x w'=>PB N p w x w') :
 Calls Tryz.prog 143 #[.pointer (some ⟨p,0,none⟩)] w fun x w'=>PB N p w x w':=by
 have hlt:=h.lt
 have hbel:=ah (Below.refl w.heap.size w) (.cells #[.int .i64 0,.slice none 0 0,.slice none 0 0,.slice none 0 0] 58)
 have HA:=Lib.hid (h.moved hbel)
 have xu:=Lib.hid (Ch.of (p:=p) hbel)
 have HT:=Lib.hid hat
 clear h hat hbel
 go_enter Tryz.func143,Tryz.ntmps143
 go_wp2_with fail
 refine(HT.out _ HA.out).mono ?_
 rintro x w1 ⟨c9,z9,rfl,aO,aP,aQ,aR⟩
 have HF:=Lib.hid (PB.mk aO aP aQ (xu.out.trans aR))
 clear aO aP aQ aR
 go_wp2_with fail
 exact⟨rfl,HF.out⟩
theorem NI (N p k d:Nat) (U:List Uw) (wv tv rv ti ri:Value) (w:World) (h:PI w p U k d wv tv rv ti ri)
 (hat:∀w,PI w p U k d wv tv rv ti ri→Calls Tryz.prog 143 #[.pointer (some ⟨p,0,none⟩)] w fun x w'=>PB N p w x w') :
 Calls Tryz.prog 123 #[.pointer (some ⟨p,0,none⟩)] w fun x w'=>PB N p w x w':=by
 have hlt:=h.lt
 have hbel:=ah (Below.refl w.heap.size w) (.cells #[.int .i64 0,.slice none 0 0,.slice none 0 0,.slice none 0 0] 58)
 have HA:=Lib.hid (h.moved hbel)
 have xu:=Lib.hid (Ch.of (p:=p) hbel)
 have HT:=Lib.hid hat
 clear h hat hbel
 go_enter Tryz.func123,Tryz.ntmps123
 go_wp2_with fail
 refine(HT.out _ HA.out).mono ?_
 rintro x w1 ⟨c9,z9,rfl,aO,aP,aQ,aR⟩
 have HF:=Lib.hid (PB.mk aO aP aQ (xu.out.trans aR))
 clear aO aP aQ aR
 go_wp2_with fail
 exact⟨rfl,HF.out⟩
theorem EB (N p k d:Nat) (U:List Uw) (wv tv rv ti ri:Value) (w:World) (h:PI w p U k d wv tv rv ti ri)
 (hat:∀w,PI w p U k d wv tv rv ti ri→Calls Tryz.prog 123 #[.pointer (some ⟨p,0,none⟩)] w fun x w'=>PB N p w x w') :
 Calls Tryz.prog 95 #[.pointer (some ⟨p,0,none⟩)] w fun x w'=>PB N p w x w':=by
 have hlt:=h.lt
 have hbel:=ah (Below.refl w.heap.size w) (.cells #[.int .i64 0,.slice none 0 0,.slice none 0 0,.slice none 0 0] 58)
 have HA:=Lib.hid (h.moved hbel)
 have xu:=Lib.hid (Ch.of (p:=p) hbel)
 have HT:=Lib.hid hat
 clear h hat hbel
 go_enter Tryz.func95,Tryz.ntmps95
 go_wp2_with fail
 refine(HT.out _ HA.out).mono ?_
 rintro x w1 ⟨c9,z9,rfl,aO,aP,aQ,aR⟩
 have HF:=Lib.hid (PB.mk aO aP aQ (xu.out.trans aR))
 clear aO aP aQ aR
 go_wp2_with fail
 exact⟨rfl,HF.out⟩
theorem Qg (N p k d k1:Nat) (U:List Uw) (V:Pm.Ws) (hV:iq V U) (wv tv rv ti ri:Value) (a:PT) (w:World) (h:PI w p U k d wv tv rv ti ri) (P:Nat→PT→Nat→Prop) (hmono:∀k b k',P k b k'→k<k') (h1:P k a k1) (hl:¬ ∃e k2,pW V P a k1 e k2)
 (hat:∀w k a k1,P k a k1→PI w p U k d wv tv rv ti ri→Calls Tryz.prog 143 #[.pointer (some ⟨p,0,none⟩)] w fun x w'=>mR w w' a x∧Ch w w' p∧PI w' p U k1 d wv tv rv ti ri)
 (hbt:∀w ki,k≤ki→(¬ ∃b k',P ki b k')→PI w p U ki d wv tv rv ti ri→Calls Tryz.prog 143 #[.pointer (some ⟨p,0,none⟩)] w fun x w'=>PB N p w x w') :
 Calls Tryz.prog 123 #[.pointer (some ⟨p,0,none⟩)] w fun x w'=>PB N p w x w':=by
 have hlt:=h.lt
 have hA:=h.moved (ah (Below.refl _ _) (.cells #[.int .i64 0,.slice none 0 0,.slice none 0 0,.slice none 0 0] 58))
 have HX:=Lib.hid h
 have HA:=Lib.hid hA
 have HT:=Lib.hid hat
 have HL:=Lib.hid hl
 have oV:=Lib.hid hbt
 have Qh:k≤k1:=by have:=hmono _ _ _ h1;omega
 have sP:=Lib.hid h1
 clear h hA hat hbt hl h1
 go_enter Tryz.func123,Tryz.ntmps123
 go_wp2_with fail
 refine(HT.out _ _ _ _ sP.out HA.out).mono ?_
 rintro x w1 ⟨⟨nv,ev,lv,rfl,hkp⟩,hch,hxi⟩
 obtain⟨⟨o1,q1,rfl⟩,⟨o2,q2,rfl⟩,⟨o3,q3,rfl⟩⟩:=hkp.here.form
 have hs1:w.heap.size<w1.heap.size:=by have:=hch.size;simp at this;omega
 have hr1:w1.heap[w.heap.size]? = some (.cells #[.int .i64 0,.slice none 0 0,.slice none 0 0,.slice none 0 0] 58 (0,0)):=by rw[hch.block _ (by simp) (by omega)];exact heap_alloc_new w _
 have hpb:p≠w1.heap.size:=by omega
 have gT:=hxi.moved (ah (Below.refl _ _) (.cells #[.int .i64 a.kind,.slice o1 a.names.length q1,.slice o2 a.ends.length q2,.slice o3 a.parts.length q3] 58))
 have hpi:QI w (w1.alloc (.cells #[.int .i64 a.kind,.slice o1 a.names.length q1,.slice o2 a.ends.length q2,.slice o3 a.parts.length q3] 58)) p w1.heap.size w.heap.size U d k1 wv tv rv ti ri a (.slice o1 a.names.length q1) (.slice o2 a.ends.length q2) (.slice o3 a.parts.length q3):=by
  refine⟨gT,?_,heap_alloc_new w1 _,⟨.int .i64 0,.slice none 0 0,.slice none 0 0,.slice none 0 0,?_⟩,?_⟩
  · exact((Ch.of (ah (Below.refl _ _) _)).trans hch).trans (Ch.of (ah (Below.refl _ _) _))
  · rw[(ah (Below.refl w1.heap.size w1) _).block _ hs1];exact hr1
  · intro w' hag
    refine hkp w' ⟨hag.os,hag.tape,hag.output,by have:=hag.size;simp at this;omega,fun j hj hS=>?_⟩
    have hS':w.heap.size+1≤j:=by simpa using hS
    rw[hag.block j (by simp;omega) ⟨by omega,by omega⟩]
    exact(ah (Below.refl w1.heap.size w1) _).block j hj
 have oW:=Lib.hid hpi
 have hle:=hxi.le
 clear hpi gT hxi hch hkp hr1
 go_wp2_with fail
 go_loopg [] (U.length-k1) (fun g wx=>∃(a':PT) (ki:Nat) (o4 o5 o6:Option Addr) (q4 q5 q6:Nat),(ki+g=U.length∧k≤ki)∧QI w wx p w1.heap.size w.heap.size U d ki wv tv rv ti ri a' (.slice o4 a'.names.length q4) (.slice o5 a'.ends.length q5) (.slice o6 a'.parts.length q6)∧¬ ∃e k2,pW V P a' ki e k2)
 case atStart=>exact⟨a,k1,_,_,_,_,_,_,⟨by omega,Qh⟩,oW.out,HL.out⟩
 case round=>
  obtain⟨a',ki,o4,o5,o6,q4,q5,q6,⟨hkg,hkk⟩,hpi,hpo⟩:=hrel
  have HP:=Lib.hid hpi
  have Lp:=hpi.x.le
  clear hpi
  obtain⟨hcnd,hbb⟩:=pW.bad hpo
  rcases hbb with hpp|⟨nb,kj,hpp,gU⟩
  · have HN := Lib.hid hcnd
    clear hpo hcnd
    go_wp2_with fail
    refine(nS p ki d U V hV wv tv rv ti ri _ HP.out.x).mono ?_
    rintro x w2 ⟨rfl,hb2'⟩
    have hc2:=Ch.of (p:=p) hb2'
    have hx2:=HP.out.x.moved hb2'
    clear hb2'
    rw[decide_eq_true HN.out]
    have hb2:=(hc2.block _ (lt_of_some HP.out.hb) (fun e=>hpb e.symm)).trans HP.out.hb
    have hblt:=lt_of_some hb2
    obtain⟨z0,z1,z2,z3,hz⟩:=HP.out.hr
    have hr2:=(hc2.block _ (lt_of_some hz) (by omega)).trans hz
    have je:=lt_of_some hr2
    have hbr:¬w1.heap.size=w.heap.size:=by omega
    obtain⟨⟨d0,d1,d2,d3⟩,g0,g1,g2,g3⟩:=aS hb2
    have bM:=HP.out.kp.to (hc2.ag.sub (fun j _ hj=>by omega))
    have HK:=Lib.hid bM
    have HC:=Lib.hid (HP.out.c.trans hc2)
    have fD:=Lib.hid hx2
    have HR2:=Lib.hid hr2
    have HB2:=Lib.hid hb2
    have lG:¬w2.heap.size=w1.heap.size:=by omega
    clear hb2 hz bM hc2 hx2 hr2 HP
    have gq:=Lib.hid hpp
    clear hpp
    go_wp2_with fail
    refine wp_region_any (by kernel_rfl) ?_
    try (change wpAny _ _ _ _ _ _ _ (World.drew _))
    refine wpAny_take (i:=1) (v:=.pointer (some ⟨p,0,none⟩)) rfl (by kernel_rfl) (by kernel_rfl) (by kernel_rfl) (fun _ _ _ h=>h) (Or.inl ⟨by rfl,by intro w;go_simp⟩) ?_
    refine wpAny_ready (rs:=[0,2]) (by kernel_rfl) (by simp) ?_
    refine AllReady.cons rfl (fun K hK=>?_) (AllReady.cons rfl (fun K hK=>?_) AllReady.nil)
    · go_simp
      refine hK _ _ ?_
      clear hK K
      refine wpAny_ready (rs:=[2]) (by kernel_rfl) (by simp) ?_
      refine AllReady.cons rfl (fun K hK=>?_) AllReady.nil
      go_simp
      go_at_call 143
      refine(oV.out _ _ hkk gq.out (fD.out.moved (by repeat (first|exact Below.refl _ _|refine Below.drew ?_)))).mono ?_
      rintro x w5 ⟨c9,z9,rfl,aO,aP,aQ,aR⟩
      have HF:=Lib.hid (PB.mk aO aP aQ (HC.out.trans (Ch.trans (Ch.of (Below.refl _ _).drew) aR)))
      clear d0 d1 d2 d3 g0 g1 g2 g3 aO aP aQ aR
      try go_wp2_with fail
      first|exact⟨rfl,HF.out⟩|exact⟨rfl,rfl,HF.out⟩
    · go_simp
      go_at_call 143
      refine(oV.out _ _ hkk gq.out (fD.out.moved (by repeat (first|exact Below.refl _ _|refine Below.drew ?_)))).mono ?_
      rintro x w5 ⟨c9,z9,rfl,aO,aP,aQ,aR⟩
      have HF:=Lib.hid (PB.mk aO aP aQ (HC.out.trans (Ch.trans (Ch.of (Below.refl _ _).drew) aR)))
      clear d0 d1 d2 d3 g0 g1 g2 g3 aO aP aQ aR
      try go_wp2_with fail
      first|exact⟨rfl,HF.out⟩|exact⟨rfl,rfl,HF.out⟩
  · have HN := Lib.hid hcnd
    clear hpo hcnd
    go_wp2_with fail
    refine(nS p ki d U V hV wv tv rv ti ri _ HP.out.x).mono ?_
    rintro x w2 ⟨rfl,hb2'⟩
    have hc2:=Ch.of (p:=p) hb2'
    have hx2:=HP.out.x.moved hb2'
    clear hb2'
    rw[decide_eq_true HN.out]
    have hb2:=(hc2.block _ (lt_of_some HP.out.hb) (fun e=>hpb e.symm)).trans HP.out.hb
    have hblt:=lt_of_some hb2
    obtain⟨z0,z1,z2,z3,hz⟩:=HP.out.hr
    have hr2:=(hc2.block _ (lt_of_some hz) (by omega)).trans hz
    have je:=lt_of_some hr2
    have hbr:¬w1.heap.size=w.heap.size:=by omega
    obtain⟨⟨d0,d1,d2,d3⟩,g0,g1,g2,g3⟩:=aS hb2
    have bM:=HP.out.kp.to (hc2.ag.sub (fun j _ hj=>by omega))
    have HK:=Lib.hid bM
    have HC:=Lib.hid (HP.out.c.trans hc2)
    have fD:=Lib.hid hx2
    have HR2:=Lib.hid hr2
    have HB2:=Lib.hid hb2
    have oZ:=Lib.hid gU
    have lG:¬w2.heap.size=w1.heap.size:=by omega
    clear hb2 hz bM hc2 hx2 hr2 HP gU
    have gq:=Lib.hid hpp
    have zX:=hmono _ _ _ hpp
    clear hpp
    go_wp2_with fail
    go_region_law
     (go_simp;go_at_call 143;refine(HT.out _ _ _ _ gq.out (fD.out.moved (by repeat (first|exact Below.refl _ _|refine Below.drew ?_)))).mono ?_;rintro x w5 ⟨⟨n5,e5,l5,rfl,hk5⟩,aK,hx5⟩;obtain⟨⟨o7,q7,rfl⟩,⟨o8,q8,rfl⟩,⟨o9,q9,rfl⟩⟩:=hk5.here.form;have hb5:=(aK.block _ hblt (fun e=>hpb e.symm)).trans HB2.out;obtain⟨⟨e0,e1,e2,e3⟩,m0,m1,m2,m3⟩:=aS hb5;have jw:w1.heap.size<w5.heap.size:=Nat.lt_of_lt_of_le hblt (show w2.heap.size≤w5.heap.size from aK.size);have sQ:¬w5.heap.size=w1.heap.size:=(fun e=>absurd jw (e▸Nat.lt_irrefl _));have sS:¬w1.heap.size=w5.heap.size:=(fun e=>absurd jw (e▸Nat.lt_irrefl _)))
    all_goals (
     have jO:=(aK.block _ je (fun e=>by omega)).trans HR2.out
     have jy:=HK.out.to (((Ag.refl _ w2).drew).trans (aK.ag.sub (fun j _ hj=>by omega)))
     have jP:=Lib.hid (QI.two (b':=nb) (n5':=w2.heap.size) 5 HX.out (HC.out.trans (Ch.trans (Ch.of (Below.refl _ _).drew) aK)) hx5 hb5 jO jy (hk5.sub (fun j _ hj=>hj)) (by omega) (Nat.le_refl _) (by omega) hblt)
     have hkl:=hx5.le
     clear hb5 jO jy e0 e1 e2 e3 m0 m1 m2 m3 d0 d1 d2 d3 g0 g1 g2 g3 aK hx5 hk5
     try go_wp2_with fail
     go_roundg (U.length-kj)
     case measure=>omega
     case rel=>exact⟨.mk 5 [] [] [a',nb],kj,none,none,some ⟨w5.heap.size,0,none⟩,0,0,2,⟨by omega,by omega⟩,jP.out,oZ.out⟩)
theorem Hw (N p k d k1:Nat) (U:List Uw) (V:Pm.Ws) (hV:iq V U) (wv tv rv ti ri:Value) (a:PT) (w:World) (h:PI w p U k d wv tv rv ti ri) (P:Nat→PT→Nat→Prop) (hmono:∀k b k',P k b k'→k≤k') (h1:P k a k1) (hl:¬ ∃e k2,pX V P a k1 e k2)
 (hat:∀w k a k1,P k a k1→PI w p U k d wv tv rv ti ri→Calls Tryz.prog 123 #[.pointer (some ⟨p,0,none⟩)] w fun x w'=>mR w w' a x∧Ch w w' p∧PI w' p U k1 d wv tv rv ti ri)
 (hbt:∀w ki,k≤ki→(¬ ∃b k',P ki b k')→PI w p U ki d wv tv rv ti ri→Calls Tryz.prog 123 #[.pointer (some ⟨p,0,none⟩)] w fun x w'=>PB N p w x w') :
 Calls Tryz.prog 95 #[.pointer (some ⟨p,0,none⟩)] w fun x w'=>PB N p w x w':=by
 have hlt:=h.lt
 have hA:=h.moved (ah (Below.refl _ _) (.cells #[.int .i64 0,.slice none 0 0,.slice none 0 0,.slice none 0 0] 58))
 have HX:=Lib.hid h
 have HA:=Lib.hid hA
 have HT:=Lib.hid hat
 have HL:=Lib.hid hl
 have oV:=Lib.hid hbt
 have Qh:k≤k1:=by have:=hmono _ _ _ h1;omega
 have sP:=Lib.hid h1
 clear h hA hat hbt hl h1
 go_enter Tryz.func95,Tryz.ntmps95
 go_wp2_with fail
 refine(HT.out _ _ _ _ sP.out HA.out).mono ?_
 rintro x w1 ⟨⟨nv,ev,lv,rfl,hkp⟩,hch,hxi⟩
 obtain⟨⟨o1,q1,rfl⟩,⟨o2,q2,rfl⟩,⟨o3,q3,rfl⟩⟩:=hkp.here.form
 have hs1:w.heap.size<w1.heap.size:=by have:=hch.size;simp at this;omega
 have hr1:w1.heap[w.heap.size]? = some (.cells #[.int .i64 0,.slice none 0 0,.slice none 0 0,.slice none 0 0] 58 (0,0)):=by rw[hch.block _ (by simp) (by omega)];exact heap_alloc_new w _
 have hpb:p≠w1.heap.size:=by omega
 have gT:=hxi.moved (ah (Below.refl _ _) (.cells #[.int .i64 a.kind,.slice o1 a.names.length q1,.slice o2 a.ends.length q2,.slice o3 a.parts.length q3] 58))
 have hpi:QI w (w1.alloc (.cells #[.int .i64 a.kind,.slice o1 a.names.length q1,.slice o2 a.ends.length q2,.slice o3 a.parts.length q3] 58)) p w1.heap.size w.heap.size U d k1 wv tv rv ti ri a (.slice o1 a.names.length q1) (.slice o2 a.ends.length q2) (.slice o3 a.parts.length q3):=by
  refine⟨gT,?_,heap_alloc_new w1 _,⟨.int .i64 0,.slice none 0 0,.slice none 0 0,.slice none 0 0,?_⟩,?_⟩
  · exact((Ch.of (ah (Below.refl _ _) _)).trans hch).trans (Ch.of (ah (Below.refl _ _) _))
  · rw[(ah (Below.refl w1.heap.size w1) _).block _ hs1];exact hr1
  · intro w' hag
    refine hkp w' ⟨hag.os,hag.tape,hag.output,by have:=hag.size;simp at this;omega,fun j hj hS=>?_⟩
    have hS':w.heap.size+1≤j:=by simpa using hS
    rw[hag.block j (by simp;omega) ⟨by omega,by omega⟩]
    exact(ah (Below.refl w1.heap.size w1) _).block j hj
 have oW:=Lib.hid hpi
 have hle:=hxi.le
 clear hpi gT hxi hch hkp hr1
 go_wp2_with fail
 go_loopg [] (U.length-k1) (fun g wx=>∃(a':PT) (ki:Nat) (o4 o5 o6:Option Addr) (q4 q5 q6:Nat),(ki+g=U.length∧k≤ki)∧QI w wx p w1.heap.size w.heap.size U d ki wv tv rv ti ri a' (.slice o4 a'.names.length q4) (.slice o5 a'.ends.length q5) (.slice o6 a'.parts.length q6)∧¬ ∃e k2,pX V P a' ki e k2)
 case atStart=>exact⟨a,k1,_,_,_,_,_,_,⟨by omega,Qh⟩,oW.out,HL.out⟩
 case round=>
  obtain⟨a',ki,o4,o5,o6,q4,q5,q6,⟨hkg,hkk⟩,hpi,hpo⟩:=hrel
  have HP:=Lib.hid hpi
  have Lp:=hpi.x.le
  clear hpi
  obtain⟨hcnd,hbb⟩:=pX.bad hpo
  rcases hbb with hpp|⟨nb,kj,hpp,gU⟩
  · have HN := Lib.hid hcnd
    clear hpo hcnd
    go_wp2_with fail
    refine(aH 3 ⟨#[124]⟩ _).mono ?_
    rintro x wt ⟨b1,b2,rfl,hbx,hbt⟩
    have Cq:=lt_of_some HP.out.hb
    have HT0:=Lib.hid (And.intro (HP.out.x.moved hbt) (And.intro hbx hbt))
    obtain⟨qq,hqq⟩:=hV.at HP.out.x.le
    clear hbx hbt
    go_wp2_with fail
    refine(bV p ki d U wv tv rv ti ri 3 ⟨#[124]⟩ b1 b2 qq _ (by decide) HT0.out.1 hqq HT0.out.2.1 ?_ ?_).mono ?_
    · intro e;have h1:=HT0.out.1.hh;rw[←e,HT0.out.2.1.h1] at h1;cases h1
    · intro e;have h1:=HT0.out.1.hh;rw[←e,HT0.out.2.1.h2] at h1;cases h1
    rintro x w2 ⟨rfl,hc2',hx2⟩
    have hc2:=(Ch.of (p:=p) HT0.out.2.2).trans hc2'
    clear hc2'
    have hsg:=cZ hV hqq 124
    rw[decide_eq_true (show Pm.sg V ki ((124:UInt8).toNat:Int) from HN.out)] at hsg
    rw[hsg] at hx2 ⊢
    rw[if_pos rfl] at hx2
    clear hsg hqq
    have hb2:=(hc2.block _ (lt_of_some HP.out.hb) (fun e=>hpb e.symm)).trans HP.out.hb
    have hblt:=lt_of_some hb2
    obtain⟨z0,z1,z2,z3,hz⟩:=HP.out.hr
    have hr2:=(hc2.block _ (lt_of_some hz) (by omega)).trans hz
    have je:=lt_of_some hr2
    have hbr:¬w1.heap.size=w.heap.size:=by omega
    obtain⟨⟨d0,d1,d2,d3⟩,g0,g1,g2,g3⟩:=aS hb2
    have bM:=HP.out.kp.to (hc2.ag.sub (fun j _ hj=>by omega))
    have HK:=Lib.hid bM
    have HC:=Lib.hid (HP.out.c.trans hc2)
    have fD:=Lib.hid hx2
    have HR2:=Lib.hid hr2
    have HB2:=Lib.hid hb2
    have lG:¬w2.heap.size=w1.heap.size:=by omega
    clear hb2 hz bM hc2 hx2 hr2 HP
    have gq:=Lib.hid hpp
    clear hpp
    go_wp2_with fail
    refine wp_region_any (by kernel_rfl) ?_
    try (change wpAny _ _ _ _ _ _ _ (World.drew _))
    refine wpAny_take (i:=1) (v:=.pointer (some ⟨p,0,none⟩)) rfl (by kernel_rfl) (by kernel_rfl) (by kernel_rfl) (fun _ _ _ h=>h) (Or.inl ⟨by rfl,by intro w;go_simp⟩) ?_
    refine wpAny_ready (rs:=[0,2]) (by kernel_rfl) (by simp) ?_
    refine AllReady.cons rfl (fun K hK=>?_) (AllReady.cons rfl (fun K hK=>?_) AllReady.nil)
    · go_simp
      refine hK _ _ ?_
      clear hK K
      refine wpAny_ready (rs:=[2]) (by kernel_rfl) (by simp) ?_
      refine AllReady.cons rfl (fun K hK=>?_) AllReady.nil
      go_simp
      go_at_call 123
      refine(oV.out _ _ (Nat.le_succ_of_le hkk) gq.out (fD.out.moved (by repeat (first|exact Below.refl _ _|refine Below.drew ?_)))).mono ?_
      rintro x w5 ⟨c9,z9,rfl,aO,aP,aQ,aR⟩
      have HF:=Lib.hid (PB.mk aO aP aQ (HC.out.trans (Ch.trans (Ch.of (Below.refl _ _).drew) aR)))
      clear d0 d1 d2 d3 g0 g1 g2 g3 aO aP aQ aR
      try go_wp2_with fail
      first|exact⟨rfl,HF.out⟩|exact⟨rfl,rfl,HF.out⟩
    · go_simp
      go_at_call 123
      refine(oV.out _ _ (Nat.le_succ_of_le hkk) gq.out (fD.out.moved (by repeat (first|exact Below.refl _ _|refine Below.drew ?_)))).mono ?_
      rintro x w5 ⟨c9,z9,rfl,aO,aP,aQ,aR⟩
      have HF:=Lib.hid (PB.mk aO aP aQ (HC.out.trans (Ch.trans (Ch.of (Below.refl _ _).drew) aR)))
      clear d0 d1 d2 d3 g0 g1 g2 g3 aO aP aQ aR
      try go_wp2_with fail
      first|exact⟨rfl,HF.out⟩|exact⟨rfl,rfl,HF.out⟩
  · have HN := Lib.hid hcnd
    clear hpo hcnd
    go_wp2_with fail
    refine(aH 3 ⟨#[124]⟩ _).mono ?_
    rintro x wt ⟨b1,b2,rfl,hbx,hbt⟩
    have Cq:=lt_of_some HP.out.hb
    have HT0:=Lib.hid (And.intro (HP.out.x.moved hbt) (And.intro hbx hbt))
    obtain⟨qq,hqq⟩:=hV.at HP.out.x.le
    clear hbx hbt
    go_wp2_with fail
    refine(bV p ki d U wv tv rv ti ri 3 ⟨#[124]⟩ b1 b2 qq _ (by decide) HT0.out.1 hqq HT0.out.2.1 ?_ ?_).mono ?_
    · intro e;have h1:=HT0.out.1.hh;rw[←e,HT0.out.2.1.h1] at h1;cases h1
    · intro e;have h1:=HT0.out.1.hh;rw[←e,HT0.out.2.1.h2] at h1;cases h1
    rintro x w2 ⟨rfl,hc2',hx2⟩
    have hc2:=(Ch.of (p:=p) HT0.out.2.2).trans hc2'
    clear hc2'
    have hsg:=cZ hV hqq 124
    rw[decide_eq_true (show Pm.sg V ki ((124:UInt8).toNat:Int) from HN.out)] at hsg
    rw[hsg] at hx2 ⊢
    rw[if_pos rfl] at hx2
    clear hsg hqq
    have hb2:=(hc2.block _ (lt_of_some HP.out.hb) (fun e=>hpb e.symm)).trans HP.out.hb
    have hblt:=lt_of_some hb2
    obtain⟨z0,z1,z2,z3,hz⟩:=HP.out.hr
    have hr2:=(hc2.block _ (lt_of_some hz) (by omega)).trans hz
    have je:=lt_of_some hr2
    have hbr:¬w1.heap.size=w.heap.size:=by omega
    obtain⟨⟨d0,d1,d2,d3⟩,g0,g1,g2,g3⟩:=aS hb2
    have bM:=HP.out.kp.to (hc2.ag.sub (fun j _ hj=>by omega))
    have HK:=Lib.hid bM
    have HC:=Lib.hid (HP.out.c.trans hc2)
    have fD:=Lib.hid hx2
    have HR2:=Lib.hid hr2
    have HB2:=Lib.hid hb2
    have oZ:=Lib.hid gU
    have lG:¬w2.heap.size=w1.heap.size:=by omega
    clear hb2 hz bM hc2 hx2 hr2 HP gU
    have gq:=Lib.hid hpp
    have zX:=hmono _ _ _ hpp
    clear hpp
    go_wp2_with fail
    go_region_law
     (go_simp;go_at_call 123;refine(HT.out _ _ _ _ gq.out (fD.out.moved (by repeat (first|exact Below.refl _ _|refine Below.drew ?_)))).mono ?_;rintro x w5 ⟨⟨n5,e5,l5,rfl,hk5⟩,aK,hx5⟩;obtain⟨⟨o7,q7,rfl⟩,⟨o8,q8,rfl⟩,⟨o9,q9,rfl⟩⟩:=hk5.here.form;have hb5:=(aK.block _ hblt (fun e=>hpb e.symm)).trans HB2.out;obtain⟨⟨e0,e1,e2,e3⟩,m0,m1,m2,m3⟩:=aS hb5;have jw:w1.heap.size<w5.heap.size:=Nat.lt_of_lt_of_le hblt (show w2.heap.size≤w5.heap.size from aK.size);have sQ:¬w5.heap.size=w1.heap.size:=(fun e=>absurd jw (e▸Nat.lt_irrefl _));have sS:¬w1.heap.size=w5.heap.size:=(fun e=>absurd jw (e▸Nat.lt_irrefl _)))
    all_goals (
     have jO:=(aK.block _ je (fun e=>by omega)).trans HR2.out
     have jy:=HK.out.to (((Ag.refl _ w2).drew).trans (aK.ag.sub (fun j _ hj=>by omega)))
     have jP:=Lib.hid (QI.two (b':=nb) (n5':=w2.heap.size) 6 HX.out (HC.out.trans (Ch.trans (Ch.of (Below.refl _ _).drew) aK)) hx5 hb5 jO jy (hk5.sub (fun j _ hj=>hj)) (by omega) (Nat.le_refl _) (by omega) hblt)
     have hkl:=hx5.le
     clear hb5 jO jy e0 e1 e2 e3 m0 m1 m2 m3 d0 d1 d2 d3 g0 g1 g2 g3 aK hx5 hk5
     try go_wp2_with fail
     go_roundg (U.length-kj)
     case measure=>omega
     case rel=>exact⟨.mk 6 [] [] [a',nb],kj,none,none,some ⟨w5.heap.size,0,none⟩,0,0,2,⟨by omega,by omega⟩,jP.out,oZ.out⟩)
inductive Ei (V:Pm.Ws) (k:Nat):List ByteArray→Nat→Prop
 | one {b:ByteArray} (h:V[k]? = some (1,sb b)) (hb:cK b=true):Ei V k [b] (k+1)
 | go {l:List ByteArray} {j:Nat} {b:ByteArray} (r:Ei V k l j) (h:V[j]? = some (1,sb b)) (hb:cK b=true):Ei V k (l++[b]) (j+1)
theorem Ei.app {V:Pm.Ws} {k j:Nat} {l:List ByteArray} (h:Ei V k l j):k<j∧∀m i,Pm.ny V j m i→Pm.ny V k (l++m) i:=by
 induction h with
 | one h hb=>exact⟨Nat.lt_succ_self _,fun m i hm=>.more h hb hm⟩
 | go r h hb ih=>exact⟨by omega,fun m i hm=>by rw[List.append_assoc];exact ih.2 _ _ (.more h hb hm)⟩
theorem Ei.nms {V:Pm.Ws} {k j:Nat} {l:List ByteArray} (h:Ei V k l j) (h1:Pm.vk V j≠1):Pm.ny V k l j:=by
 cases h with
 | one h hb=>exact .last h hb h1
 | go r h hb=>exact r.app.2 _ _ (.last h hb h1)
theorem yM (N p k d:Nat) (U:List Uw) (V:Pm.Ws) (hU:lS N U V) (wv tv rv ti ri:Value) (w:World) (h:PI w p U k d wv tv rv ti ri) :
 Calls Tryz.prog 91 #[.pointer (some ⟨p,0,none⟩)] w fun x w'=>PB N p w x w'∨∃b,x=.returned (.string b)∧(V[k]? = some (1,sb b)∧cK b=true)∧Ch w w' p∧PI w' p U (k+1) d wv tv rv ti ri:=by
 obtain⟨⟨qk,qb,qn⟩,hqq⟩:=hU.v.at h.le
 have hn:=hU.pl _ _ hqq
 have qR:=hU.sz _ _ hqq
 dsimp only at hn qR
 have HWD:=Lib.hid (fun (e:qk=1)=>show V[k]? = some (1,sb qb) by have h9:=hU.word hqq (by rw[e];decide);rw[e] at h9;exact h9)
 have HP:=Lib.hid h
 have HQ:=Lib.hid hqq
 have HN:=Lib.hid (fun w=>yD qb w qR)
 clear h hqq qR
 go_enter Tryz.func91,Tryz.ntmps91
 go_wp2_with fail
 refine(dO 1 _).mono ?_
 rintro x Co ⟨b11,rfl,hbx,hbt⟩
 have HT1:=Lib.hid (And.intro (HP.out.moved hbt) (And.intro hbx hbt))
 clear hbx hbt
 go_wp2_with fail
 refine(pV N p k d U wv tv rv ti ri 1 b11 (qk,qb,qn) _ (by decide) HT1.out.1 HQ.out HT1.out.2.1 hn).mono ?_
 rintro x w1 (hbad|⟨jG,rfl,hc1,hx1⟩)
 · obtain ⟨c9, z9, rfl, aO, aP, aQ, aR⟩ := hbad
   have HF:=Lib.hid (PB.mk aO aP aQ ((Ch.of HT1.out.2.2).trans aR))
   clear aO aP aQ aR
   go_wp2_with fail
   exact⟨rfl,.inl HF.out⟩
 replace hc1:=(Ch.of (p:=p) HT1.out.2.2).trans hc1
 have hbel:=ah (Below.refl w1.heap.size w1) (.cells #[.int .i64 qk,.string qb,.int .i64 qn] 72)
 have H1:=Lib.hid (And.intro (hx1.moved hbel) (And.intro (hc1.trans (Ch.of hbel)) (heap_alloc_new w1 (.cells #[.int .i64 qk,.string qb,.int .i64 qn] 72))))
 clear hx1 hc1 hbel
 go_wp2_with fail
 refine(HN.out _).mono ?_
 rintro x w2 ⟨rfl,hb2⟩
 have hg2:=aB hb2 H1.out.2.2
 obtain⟨⟨c0,c1,c2⟩,f0,f1,f2⟩:=ay hg2
 have H2:=Lib.hid (And.intro (H1.out.1.moved hb2) (H1.out.2.1.trans (Ch.of hb2)))
 clear hb2 hg2
 cases hnb:cK qb with
 | true =>
  have HNB:=Lib.hid (And.intro (HWD.out (by unfold iU at jG;simpa using jG)) hnb)
  clear hnb jG
  go_wp2_with fail
  go_ret
  exact .inr ⟨_,rfl,HNB.out,H2.out.2,H2.out.1⟩
 | false =>
  have HF:=Lib.hid (PB.mk (c:=4) (by decide) (by decide) hn H2.out.2)
  go_wp2_with fail
  exact⟨rfl,.inl HF.out⟩
theorem wV (N p k d:Nat) (U:List Uw) (V:Pm.Ws) (hU:lS N U V) (wv tv rv ti ri:Value) (w:World) (h:PI w p U k d wv tv rv ti ri) :
 Calls Tryz.prog 122 #[.pointer (some ⟨p,0,none⟩)] w fun x w'=>PB N p w x w'∨∃(ns:List ByteArray) (v:Value) (j:Nat),x=.returned v∧Pm.ny V k ns j∧w'.ownsRow w.heap.size 9 1 v ns.length (strs ns)∧Ch w w' p∧PI w' p U j d wv tv rv ti ri:=by
 obtain⟨ii,hi,hz0,hz1,hz2⟩:=Au
 have hfd:∀(a c:Int) (b:ByteArray) (w:World),(Instr.field 72 (.agg #[.int .i64 a,.string b,.int .i64 c]) 0).run Tryz.prog w=.ok (.int .i64 a) w:=fun _ _ _ _=>by kernel_rfl
 have hsm:=h.small
 have HP:=Lib.hid h
 clear h
 go_enter Tryz.func122,Tryz.ntmps122
 go_wp2_with fail
 refine(yM N p k d U V hU wv tv rv ti ri _ HP.out).mono ?_
 rintro x w1 (hbad|⟨b0,rfl,hb0,hc1,hx1⟩)
 · obtain ⟨c9, z9, rfl, aO, aP, aQ, aR⟩ := hbad
   have HF:=Lib.hid (PB.mk aO aP aQ (aR))
   clear aO aP aQ aR
   go_wp2_with fail
   exact⟨rfl,.inl HF.out⟩
 have hbel:=ah (Below.refl w1.heap.size w1) (.cells #[.string b0] 9)
 have hown:(w1.alloc (.cells #[.string b0] 9)).ownsRow w.heap.size 9 1 (.slice (some ⟨w1.heap.size,0,none⟩) 1 1) 1 (strs [b0]):=by
  have h9:=Ej (n:=1) (size:=1) (heap_alloc_new w1 (.cells #[.string b0] 9)) rfl (by decide)
  exact ji h9 hc1.size
 have hkk:=hx1.le
 have H1:=Lib.hid (And.intro (hx1.moved hbel) (And.intro (hc1.trans (Ch.of hbel)) hown))
 clear hx1 hc1 hbel hown
 go_wp2_with fail
 go_loopg [3] (U.length-(k+1)) (fun g s3 wx=>∃(pre:List ByteArray) (ki:Nat),ki+g=U.length∧PI wx p U ki d wv tv rv ti ri∧Ch w wx p∧wx.ownsRow w.heap.size 9 1 s3 pre.length (strs pre)∧pre.length≤ki∧Ei V k pre ki)
 case atStart=>exact⟨[b0],k+1,by omega,H1.out.1,H1.out.2.1,H1.out.2.2,by simp,.one hb0.1 hb0.2⟩
 case round=>
  obtain⟨pre,ki,hkg,hx,hc,hown,hpk,xY⟩:=hrel
  obtain⟨o3,c3,rfl⟩:=au hown
  obtain⟨⟨qk,qb,qn⟩,hqq⟩:=hU.v.at hx.le
  have hle:=hx.le
  have HI:=Lib.hid (And.intro hx (And.intro hc hown))
  have HQ:=Lib.hid hqq
  have hw0:w.heap.size≤wr.heap.size:=hc.size
  clear hx hc hown hqq
  have HKK:=Lib.hid xY
  clear xY
  cases hts:(qk == 1) with
  | false =>
   have HV1:=Lib.hid (show Pm.vk V ki≠1 from fun e=>(by have h9:=RG hU.v HQ.out (kk:=1) (by decide);unfold iU at h9;dsimp only at h9;rw[hts,decide_eq_true e] at h9;cases h9))
   go_wp2_with fail
   refine(bD p ki d U wv tv rv ti ri (qk,qb,qn) _ HI.out.1 HQ.out).mono ?_
   rintro x w2 ⟨rfl,hb2⟩
   dsimp only[iZ]
   have H2:=Lib.hid (And.intro (HI.out.1.moved hb2) (And.intro (HI.out.2.1.trans (Ch.of hb2)) (bS HI.out.2.2 hb2)))
   clear hb2
   go_wp2_with fail
   go_ret
   exact .inr ⟨_,_,_,rfl,HKK.out.nms HV1.out,H2.out.2.2,H2.out.2.1,H2.out.1⟩
  | true =>
   go_wp2_with fail
   refine(bD p ki d U wv tv rv ti ri (qk,qb,qn) _ HI.out.1 HQ.out).mono ?_
   rintro x w2 ⟨rfl,hb2⟩
   dsimp only[iZ]
   have H2:=Lib.hid (And.intro (HI.out.1.moved hb2) (And.intro (HI.out.2.1.trans (Ch.of hb2)) (bS HI.out.2.2 hb2)))
   go_wp2_with fail
   refine(yM N p ki d U V hU wv tv rv ti ri _ H2.out.1).mono ?_
   rintro x w3 (hbad|⟨b,rfl,hbb,hc3,hx3⟩)
   · obtain ⟨c9, z9, rfl, aO, aP, aQ, aR⟩ := hbad
     have HF:=Lib.hid (PB.mk aO aP aQ (H2.out.2.1.trans aR))
     clear aO aP aQ aR
     go_wp2_with fail
     exact⟨rfl,.inl HF.out⟩
   have dw:=HP.out.lt
   have hown3:=dU H2.out.2.2 hc3.ag (fun j e=>by have:=(H2.out.2.2.lt j e).1;omega)
   have hs3:w.heap.size≤w3.heap.size:=Nat.le_trans (Nat.le_trans hw0 hb2.size) hc3.size
   have hle3:=hx3.le
   have H3:=Lib.hid (And.intro hx3 (And.intro (H2.out.2.1.trans hc3) hown3))
   have YE:=Lib.hid hbb
   clear hx3 hc3 hown3 hb2 hbb
   go_wp2_with (at_builtin;refine aW _ rfl _ _ 55 rfl w.heap.size 9 ii _ 1 16 Tryz.underlying55 hi hz0 hz1 hz2 rfl (by decide) (.slice o3 pre.length c3) pre.length (strs pre) rfl (by repeat (first|exact H3.out.2.2|refine World.ownsRow.alloc ?_ _|refine bX ?_)) _ 1 _ rfl (by exact bE rfl (by simp)) rfl (by simp[Value.oneCell']) (by unfold maxLen;omega) (by omega) (by simp;omega) ?_;intro v9 w9 aI fu dP bF;obtain⟨o9,c9,rfl⟩:=au aI)
   have AB:Below w.heap.size w3 w9:=Below.trans (jo hs3 (ah (Below.refl _ _) _)) bF
   have H4:=Lib.hid (And.intro (HP.out.under H3.out.1 AB) (And.intro (H3.out.2.1.under AB) aI))
   clear aI fu dP bF AB
   go_roundg (gk-1)
   case measure=>omega
   case rel=>exact⟨pre++[b],ki+1,by omega,H4.out.1,H4.out.2.1,by simpa [strs] using H4.out.2.2,by simp;omega,HKK.out.go YE.out.1 YE.out.2⟩
theorem zO (N p k d:Nat) (U:List Uw) (V:Pm.Ws) (hU:lS N U V) (wv tv rv ti ri:Value) (w:World) (h:PI w p U k d wv tv rv ti ri) :
 Calls Tryz.prog 94 #[.pointer (some ⟨p,0,none⟩)] w fun x w'=>PB N p w x w'∨∃(ns:List ByteArray) (v:Value) (j:Nat),x=.returned v∧(Pm.sg V k 123∧Pm.ny V (k+1) ns j∧Pm.sg V j 125)∧w'.ownsRow w.heap.size 9 1 v ns.length (strs ns)∧Ch w w' p∧PI w' p U (j+1) d wv tv rv ti ri:=by
 obtain⟨q1,hq1⟩:=hU.v.at h.le
 have hn1:=hU.pl _ _ hq1
 have kR:=Lib.hid hq1
 clear hq1
 have dw:=h.lt
 have HP:=Lib.hid h
 clear h
 go_enter Tryz.func94,Tryz.ntmps94
 go_wp2_with fail
 refine(aH 3 ⟨#[123]⟩ _).mono ?_
 rintro x Co ⟨b11,yP,rfl,hbx,hbt⟩
 have HT1:=Lib.hid (And.intro (HP.out.moved hbt) (And.intro hbx hbt))
 clear hbx hbt
 go_wp2_with fail
 refine(jg N p k d U wv tv rv ti ri 3 ⟨#[123]⟩ b11 yP q1 _ (by decide) HT1.out.1 kR.out HT1.out.2.1 ?_ ?_ hn1).mono ?_
 · intro e;have h1:=HT1.out.1.hh;rw[←e,HT1.out.2.1.h1] at h1;cases h1
 · intro e;have h1:=HT1.out.1.hh;rw[←e,HT1.out.2.1.h2] at h1;cases h1
 rintro x w1 (hbad|⟨jG,rfl,hc1,hx1⟩)
 · obtain ⟨c9, z9, rfl, aO, aP, aQ, aR⟩ := hbad
   have HF:=Lib.hid (PB.mk aO aP aQ ((Ch.of HT1.out.2.2).trans aR))
   clear aO aP aQ aR
   go_wp2_with fail
   exact⟨rfl,.inl HF.out⟩
 replace hc1:=(Ch.of (p:=p) HT1.out.2.2).trans hc1
 have H1:=Lib.hid (And.intro hx1 hc1)
 have hs1:w.heap.size≤w1.heap.size:=hc1.size
 clear hx1 hc1
 go_wp2_with fail
 refine(wV N p (k+1) d U V hU wv tv rv ti ri _ H1.out.1).mono ?_
 rintro x w2 (hbad|⟨ns,v,j,rfl,Zu,ho2,hc2,hx2⟩)
 · obtain ⟨c9, z9, rfl, aO, aP, aQ, aR⟩ := hbad
   have HF:=Lib.hid (PB.mk aO aP aQ (H1.out.2.trans aR))
   clear aO aP aQ aR
   go_wp2_with fail
   exact⟨rfl,.inl HF.out⟩
 obtain⟨q3,hq3⟩:=hU.v.at hx2.le
 have rG:=hU.pl _ _ hq3
 have jJ:=Lib.hid hq3
 clear hq3
 obtain⟨o2,c2,rfl⟩:=au ho2
 have H2:=Lib.hid (And.intro hx2 (And.intro (H1.out.2.trans hc2) (ji ho2 hs1)))
 clear hx2 hc2 ho2
 go_wp2_with fail
 refine(aH 3 ⟨#[125]⟩ _).mono ?_
 rintro x vg ⟨b13,kD,rfl,hbx,hbt⟩
 have HT3:=Lib.hid (And.intro (H2.out.1.moved hbt) (And.intro hbx hbt))
 clear hbx hbt
 go_wp2_with fail
 refine(jg N p j d U wv tv rv ti ri 3 ⟨#[125]⟩ b13 kD q3 _ (by decide) HT3.out.1 jJ.out HT3.out.2.1 ?_ ?_ rG).mono ?_
 · intro e;have h1:=HT3.out.1.hh;rw[←e,HT3.out.2.1.h1] at h1;cases h1
 · intro e;have h1:=HT3.out.1.hh;rw[←e,HT3.out.2.1.h2] at h1;cases h1
 rintro x w3 (hbad|⟨Zv,rfl,hc3,hx3⟩)
 · obtain ⟨c9, z9, rfl, aO, aP, aQ, aR⟩ := hbad
   have HF:=Lib.hid (PB.mk aO aP aQ (H2.out.2.1.trans ((Ch.of HT3.out.2.2).trans aR)))
   clear aO aP aQ aR
   go_wp2_with fail
   exact⟨rfl,.inl HF.out⟩
 replace hc3:=(Ch.of (p:=p) HT3.out.2.2).trans hc3
 have ho3:=dU H2.out.2.2 hc3.ag (fun j e=>by have:=(H2.out.2.2.lt j e).1;omega)
 have H3:=Lib.hid (And.intro hx3 (And.intro (H2.out.2.1.trans hc3) ho3))
 clear hx3 hc3 ho3
 go_wp2_with fail
 go_ret
 exact .inr ⟨_,_,_,rfl,⟨hU.Ke (c:=123) kR.out jG,Zu,hU.Ke (c:=125) jJ.out Zv⟩,H3.out.2.2,H3.out.2.1,H3.out.1⟩
theorem Cc (N p k d:Nat) (U:List Uw) (V:Pm.Ws) (hU:lS N U V) (wv tv rv ti ri:Value) (w:World) (h:PI w p U k d wv tv rv ti ri) :
 Calls Tryz.prog 92 #[.pointer (some ⟨p,0,none⟩)] w fun x w'=>PB N p w x w'∨∃c:Int,x=.returned (.int .i64 c)∧Ch w w' p∧PI w' p U (k+1) d wv tv rv ti ri:=by
 obtain⟨⟨qk,qb,qn⟩,hqq⟩:=hU.v.at h.le
 have hn:=hU.pl _ _ hqq
 have qR:=hU.sz _ _ hqq
 dsimp only at hn qR
 have HD:=Lib.hid (hU.dg _ _ hqq)
 have HP:=Lib.hid h
 have HQ:=Lib.hid hqq
 clear h hqq
 go_enter Tryz.func92,Tryz.ntmps92
 go_wp2_with fail
 refine(dO 2 _).mono ?_
 rintro x Co ⟨b11,rfl,hbx,hbt⟩
 have HT1:=Lib.hid (And.intro (HP.out.moved hbt) (And.intro hbx hbt))
 clear hbx hbt
 go_wp2_with fail
 refine(pV N p k d U wv tv rv ti ri 2 b11 (qk,qb,qn) _ (by decide) HT1.out.1 HQ.out HT1.out.2.1 hn).mono ?_
 rintro x w1 (hbad|⟨jG,rfl,hc1,hx1⟩)
 · obtain ⟨c9, z9, rfl, aO, aP, aQ, aR⟩ := hbad
   have HF:=Lib.hid (PB.mk aO aP aQ ((Ch.of HT1.out.2.2).trans aR))
   clear aO aP aQ aR
   go_wp2_with fail
   exact⟨rfl,.inl HF.out⟩
 replace hc1:=(Ch.of (p:=p) HT1.out.2.2).trans hc1
 have hbel:=ah (Below.refl w1.heap.size w1) (.cells #[.int .i64 qk,.string qb,.int .i64 qn] 72)
 have H1:=Lib.hid (And.intro (hx1.moved hbel) (And.intro (hc1.trans (Ch.of hbel)) (heap_alloc_new w1 (.cells #[.int .i64 qk,.string qb,.int .i64 qn] 72))))
 clear hx1 hc1 hbel
 obtain⟨⟨c0,c1,c2⟩,f0,f1,f2⟩:=ay H1.out.2.2
 by_cases h3:qb.size≤3
 · have hs3 : decide ((qb.size : Int) > 3) = false := by simp; omega
   have hs4:decide ((3:Int)<(qb.size:Int))=false:=by simp;omega
   have hs5:decide (3<qb.size)=false:=by simp;omega
   have hk2:qk=2:=by unfold iU at jG;simpa using jG
   obtain⟨c,_,ha⟩:=HD.out hk2 (by show qb.size≤18;omega)
   have HN:=Lib.hid (fun w=>Tryz.strconv_Atoi qb c (by omega) ha w)
   clear hk2 ha jG
   have hsl:(qb.size:Int)≤9223372036854775807:=by omega
   go_wp2_with fail
   refine(HN.out _).mono ?_
   rintro x w2 ⟨rfl,t,rfl⟩
   have hb2:=Lib.bytesWorld_below (w1.alloc (.cells #[.int .i64 qk,.string qb,.int .i64 qn] 72)) 5 t
   have H2:=Lib.hid (And.intro (H1.out.1.moved hb2) (H1.out.2.1.trans (Ch.of hb2)))
   clear hb2
   go_wp2_with fail
   go_ret
   exact .inr ⟨_,rfl,H2.out.2,H2.out.1⟩
 · have hs4 : decide ((3 : Int) < (qb.size : Int)) = true := by simp; omega
   have hs5:decide (3<qb.size)=true:=by simp;omega
   have hsl:(qb.size:Int)≤9223372036854775807:=by omega
   have HF:=Lib.hid (PB.mk (c:=6) (by decide) (by decide) hn H1.out.2.1)
   go_wp2_with fail
   exact⟨rfl,.inl HF.out⟩
theorem Jd (N p k d:Nat) (U:List Uw) (V:Pm.Ws) (hU:lS N U V) (wv tv rv ti ri:Value) (w:World) (h:PI w p U k d wv tv rv ti ri) (hd:d≤40) (hno:¬ ∃e j,Pm.nT V d k e j)
 (hpat:d<40→∀w,PI w p U (k+1) (d+1) wv tv rv ti ri→Calls Tryz.prog 95 #[.pointer (some ⟨p,0,none⟩)] w fun x w'=>PB N p w x w'∨∃e j,Pm.iT V (d+1) (k+1) e j∧mR w w' e x∧Ch w w' p∧PI w' p U j (d+1) wv tv rv ti ri) :
 Calls Tryz.prog 183 #[.pointer (some ⟨p,0,none⟩)] w fun x w'=>PB N p w x w':=by
 have dw:=h.lt
 obtain⟨b,hb0⟩:∃b,b=w.heap.size+1:=⟨_,rfl⟩
 have HX:=Lib.hid h
 obtain⟨W0,hW0⟩:∃W0,W0=(w.alloc (.cells #[.int .i64 0,.slice none 0 0,.slice none 0 0,.slice none 0 0] 58)).alloc (.cells #[.int .i64 1,.slice none 0 0,.slice none 0 0,.slice none 0 0] 58):=⟨_,rfl⟩
 have hbel:Below w.heap.size w W0:=by rw[hW0];exact ah (ah (Below.refl _ _) _) _
 have hx0:=h.moved hbel
 have Hy:W0.heap[b]? = some (.cells #[.int .i64 1,.slice none 0 0,.slice none 0 0,.slice none 0 0] 58 (0,0)):=by rw[hW0,hb0];have:=heap_alloc_new (w.alloc (.cells #[.int .i64 0,.slice none 0 0,.slice none 0 0,.slice none 0 0] 58)) (.cells #[.int .i64 1,.slice none 0 0,.slice none 0 0,.slice none 0 0] 58);simpa using this
 have Ia:W0.heap[w.heap.size]? = some (.cells #[.int .i64 0,.slice none 0 0,.slice none 0 0,.slice none 0 0] 58 (0,0)):=by rw[hW0,Below.heap_alloc _ _ _ (by simp)];exact heap_alloc_new w _
 have yQ:=Lib.hid hpat
 have Ct:=Lib.hid hno
 have H0:=Lib.hid (And.intro hx0 (And.intro Hy (And.intro Ia hbel)))
 have HW0:=Lib.hid hW0
 clear h hno hpat hx0 Hy Ia hbel hW0
 go_enter Tryz.func183,Tryz.ntmps183
 go_wp2_with (with_reducible rw[←HW0.out])
 simp only[←hb0]
 have hbg:w.heap.size<b:=by omega
 have hbl:b≤w.heap.size+1:=by omega
 clear hb0
 refine(Ef N p k d U V hU wv tv rv ti ri 40 _ H0.out.1 hd).mono ?_
 rintro x w1 (hbad|⟨⟨hdl,hs1⟩,rfl,hc1,hx1⟩)
 · obtain ⟨c9, z9, rfl, aO, aP, aQ, aR⟩ := hbad
   have HF:=Lib.hid (PB.mk aO aP aQ ((Ch.of H0.out.2.2.2).trans aR))
   clear aO aP aQ aR
   go_wp2_with fail
   exact⟨rfl,HF.out⟩
 have hpb:p≠b:=by omega
 obtain⟨q2,hq2⟩:=hU.v.at hx1.le
 have hsg:=cZ hU.v hq2 41
 have H1:=Lib.hid (And.intro hx1 (And.intro ((hc1.block _ (lt_of_some H0.out.2.1) (by omega)).trans H0.out.2.1) (And.intro ((hc1.block _ (lt_of_some H0.out.2.2.1) (by omega)).trans H0.out.2.2.1) ((Ch.of H0.out.2.2.2).trans hc1))))
 have gM:=Lib.hid hq2
 clear hx1 hc1 hq2
 go_wp2_with fail
 refine(iD p (k+1) (d+1) U wv tv rv ti ri ⟨#[41]⟩ q2 _ H1.out.1 gM.out).mono ?_
 rintro x w2 ⟨rfl,hb2⟩
 by_cases hcase:Pm.sg V (k+1) 41
 · exact absurd ⟨_,_,.non hs1 hdl hcase⟩ Ct.out
 · rw [decide_eq_false (show ¬ Pm.sg V (k + 1) ((41 : UInt8).toNat : Int) from hcase)] at hsg
   rw[hsg]
   clear hsg
   have HC:=Lib.hid (And.intro hcase (And.intro hs1 hdl))
   have H2:=Lib.hid (And.intro (H1.out.1.moved hb2) (And.intro ((hb2.block _ (lt_of_some H1.out.2.1)).trans H1.out.2.1) (And.intro ((hb2.block _ (lt_of_some H1.out.2.2.1)).trans H1.out.2.2.1) (H1.out.2.2.2.trans (Ch.of hb2)))))
   have pE:b<w2.heap.size:=lt_of_some H2.out.2.1
   clear hb2 hcase
   go_wp2_with fail
   refine(yQ.out HC.out.2.2 _ H2.out.1).mono ?_
   rintro x w5 (hbad|⟨e,k1,hpl,⟨n5,e5,l5,rfl,hk5⟩,aK,hx5⟩)
   · obtain ⟨c9, z9, rfl, aO, aP, aQ, aR⟩ := hbad
     have HF:=Lib.hid (PB.mk aO aP aQ (H2.out.2.2.2.trans aR))
     clear aO aP aQ aR
     go_wp2_with fail
     exact⟨rfl,HF.out⟩
   have nk:=Lib.hid hpl
   clear hpl
   obtain⟨⟨o7,q7,rfl⟩,⟨o8,q8,rfl⟩,⟨o9,q9,rfl⟩⟩:=hk5.here.form
   have hb5:=(aK.block _ pE (by omega)).trans H2.out.2.1
   have jO:=(aK.block _ (by omega) (by omega)).trans H2.out.2.2.1
   obtain⟨⟨d0,d1,d2,d3⟩,g0,g1,g2,g3⟩:=aS hb5
   have hqi:=QI.store HX.out (H2.out.2.2.2.trans aK) hx5 hb5 jO hk5 (by omega) (Nat.le_refl _) (by omega) pE
   obtain⟨W6,bA⟩:∃W6,W6=(((w5.setCell ⟨b,0,none⟩ (.int .i64 e.kind)).setCell ⟨b,1,none⟩ (.slice o7 e.names.length q7)).setCell ⟨b,2,none⟩ (.slice o8 e.ends.length q8)).setCell ⟨b,3,none⟩ (.slice o9 e.parts.length q9):=⟨_,rfl⟩
   rw[←bA] at hqi
   have jK:=Lib.hid hqi
   have kH:=Lib.hid bA
   clear hqi bA hb5 jO aK hx5 hk5
   go_wp2_with (with_reducible rw[←kH.out])
   clear d0 d1 d2 d3 g0 g1 g2 g3
   obtain⟨q3,hq3⟩:=hU.v.at jK.out.x.le
   have jJ:=Lib.hid hq3
   clear hq3
   go_wp2_with fail
   refine(Eh N p k1 d U V hU wv tv rv ti ri 41 _ jK.out.x HC.out.2.2).mono ?_
   rintro x w3 (hbad|⟨hs3,rfl,hc3,hx3⟩)
   · obtain ⟨c9, z9, rfl, aO, aP, aQ, aR⟩ := hbad
     have HF:=Lib.hid (PB.mk aO aP aQ (jK.out.c.trans aR))
     clear aO aP aQ aR
     go_wp2_with fail
     exact⟨rfl,HF.out⟩
   exact absurd ⟨_,_,.par HC.out.2.1 HC.out.2.2 HC.out.1 nk.out hs3⟩ Ct.out
theorem Tk (N p k d:Nat) (U:List Uw) (V:Pm.Ws) (hU:lS N U V) (wv tv rv ti ri:Value) (w:World) (h:PI w p U k d wv tv rv ti ri) (hd:d≤40) (hno:¬ ∃e j,Pm.nT V d k e j)
 (hpat:d<40→∀m,k<m→∀w,PI w p U m (d+1) wv tv rv ti ri→Calls Tryz.prog 95 #[.pointer (some ⟨p,0,none⟩)] w fun x w'=>PB N p w x w'∨∃e j,Pm.iT V (d+1) m e j∧mR w w' e x∧Ch w w' p∧PI w' p U j (d+1) wv tv rv ti ri) :
 Calls Tryz.prog 182 #[.pointer (some ⟨p,0,none⟩)] w fun x w'=>PB N p w x w':=by
 have dw:=h.lt
 have hpr:w.heap.size≠p:=by omega
 have qE:p≤w.heap.size:=by omega
 have hbel:=ah (Below.refl w.heap.size w) (.cells #[.int .i64 0,.slice none 0 0,.slice none 0 0,.slice none 0 0] 58)
 have HX:=Lib.hid h
 have H0:=Lib.hid (And.intro (h.moved hbel) (And.intro (heap_alloc_new w (.cells #[.int .i64 0,.slice none 0 0,.slice none 0 0,.slice none 0 0] 58)) (Ch.of (p:=p) hbel)))
 have yQ:=Lib.hid hpat
 have Ct:=Lib.hid hno
 clear h hpat hbel hno
 go_enter Tryz.func182,Tryz.ntmps182
 go_wp2_with fail
 refine(Ef N p k d U V hU wv tv rv ti ri 60 _ H0.out.1 hd).mono ?_
 rintro x w1 (hbad|⟨⟨hdl,hs1⟩,rfl,hc1,hx1⟩)
 · obtain ⟨c9, z9, rfl, aO, aP, aQ, aR⟩ := hbad
   have HF:=Lib.hid (PB.mk aO aP aQ (H0.out.2.2.trans aR))
   clear aO aP aQ aR
   go_wp2_with fail
   exact⟨rfl,HF.out⟩
 have Kg:=Lib.hid (And.intro hs1 hdl)
 clear hs1
 have hsz1:w.heap.size<w1.heap.size:=by have:=hc1.size;simp at this;omega
 have H1:=Lib.hid (And.intro hx1 (And.intro ((hc1.block _ (by simp) hpr).trans H0.out.2.1) (H0.out.2.2.trans hc1)))
 clear hx1 hc1
 go_wp2_with fail
 refine(wV N p (k+1) (d+1) U V hU wv tv rv ti ri _ H1.out.1).mono ?_
 rintro x w2 (hbad|⟨ns,v,j,rfl,hnm,ho2,hc2,hx2⟩)
 · obtain ⟨c9, z9, rfl, aO, aP, aQ, aR⟩ := hbad
   have HF:=Lib.hid (PB.mk aO aP aQ (H1.out.2.2.trans aR))
   clear aO aP aQ aR
   go_wp2_with fail
   exact⟨rfl,HF.out⟩
 have Hf:=Lib.hid hnm
 clear hnm
 obtain⟨o2,q2,rfl⟩:=au ho2
 obtain⟨b,hb0⟩:∃b,b=w2.heap.size:=⟨_,rfl⟩
 have hsz2:=hc2.size
 have hbg:w.heap.size<b:=by omega
 have hbp:b≠p:=by omega
 have hbr:b≠w.heap.size:=by omega
 have hwb:w.heap.size≤b:=by omega
 obtain⟨W2,hW2⟩:∃W2,W2=w2.alloc (.cells #[.int .i64 3,.slice o2 ns.length q2,.slice none 0 0,.slice none 0 0] 58):=⟨_,rfl⟩
 have hbi:BI w W2 p b w.heap.size U (d+1) j wv tv rv ti ri (.int .i64 3) (.slice o2 ns.length q2) (.slice none 0 0) (.slice none 0 0):=by
  have pE:=ah (Below.refl w2.heap.size w2) (.cells #[.int .i64 3,.slice o2 ns.length q2,.slice none 0 0,.slice none 0 0] 58)
  rw[hW2]
  exact⟨hx2.moved pE,(H1.out.2.2.trans hc2).trans (Ch.of pE),by rw[hb0];exact heap_alloc_new w2 _,⟨_,_,_,_,(pE.block _ (by omega)).trans ((hc2.block _ hsz1 hpr).trans H1.out.2.1)⟩⟩
 have hkn : KP (fun j => w.heap.size < j ∧ j ≠ b) W2 (fun w' => Row w' (.slice o2 ns.length q2) ns.length (strs ns)) := by
  rw[hW2];exact vU (Dm ho2 hsz1 (by omega))
 have H2:=Lib.hid (And.intro hbi hkn)
 have HW2:=Lib.hid hW2
 have HB0:=Lib.hid hb0
 obtain⟨q3,hq3⟩:=hU.v.at hbi.x.le
 have rG:=hU.pl _ _ hq3
 have jJ:=Lib.hid hq3
 clear hq3
 clear hx2 hc2 ho2 hbi hkn hW2 hb0
 go_wp2_with (with_reducible rw[←HW2.out])
 simp only[←HB0.out]
 refine(aH 3 ⟨#[58]⟩ _).mono ?_
 rintro x vg ⟨b13,kD,rfl,hbx,hbt⟩
 have HT3:=Lib.hid (And.intro (H2.out.1.x.moved hbt) (And.intro hbx hbt))
 clear hbx hbt
 go_wp2_with fail
 refine(jg N p j (d+1) U wv tv rv ti ri 3 ⟨#[58]⟩ b13 kD q3 _ (by decide) HT3.out.1 jJ.out HT3.out.2.1 ?_ ?_ rG).mono ?_
 · intro e;have h1:=HT3.out.1.hh;rw[←e,HT3.out.2.1.h1] at h1;cases h1
 · intro e;have h1:=HT3.out.1.hh;rw[←e,HT3.out.2.1.h2] at h1;cases h1
 rintro x w3 (hbad|⟨jG,rfl,hc3,hx3⟩)
 · obtain ⟨c9, z9, rfl, aO, aP, aQ, aR⟩ := hbad
   have HF:=Lib.hid (PB.mk aO aP aQ (H2.out.1.c.trans ((Ch.of HT3.out.2.2).trans aR)))
   clear aO aP aQ aR
   go_wp2_with fail
   exact⟨rfl,HF.out⟩
 have Cu:=Lib.hid (hU.Ke (c:=58) jJ.out jG)
 clear jG
 replace hc3:=(Ch.of (p:=p) HT3.out.2.2).trans hc3
 have H3:=Lib.hid (And.intro (H2.out.1.to hc3 hx3 hbp hpr) (nU H2.out.2 hc3 qE))
 clear hc3 hx3
 go_wp2_with fail
 refine(yQ.out Kg.out.2 (j+1) (by have:=iR Hf.out;omega) _ H3.out.1.x).mono ?_
 rintro x w5 (hbad|⟨e,k1,hpl,⟨n5,e5,l5,rfl,hk5⟩,aK,hx5⟩)
 · obtain ⟨c9, z9, rfl, aO, aP, aQ, aR⟩ := hbad
   have HF:=Lib.hid (PB.mk aO aP aQ (H3.out.1.c.trans aR))
   clear aO aP aQ aR
   go_wp2_with fail
   exact⟨rfl,HF.out⟩
 have nk:=Lib.hid hpl
 clear hpl
 obtain⟨⟨o7,q7,rfl⟩,⟨o8,q8,rfl⟩,⟨o9,q9,rfl⟩⟩:=hk5.here.form
 have hb3:=lt_of_some H3.out.1.hb
 have Zw:=aK.size
 have AJ:=H3.out.1.to aK hx5 hbp hpr
 have Ib:=nU H3.out.2 aK qE
 have Ic:KP (fun j=>w.heap.size<j∧j≠b) w5 (fun w'=>bU w' e (.slice o7 e.names.length q7) (.slice o8 e.ends.length q8) (.slice o9 e.parts.length q9)):=hk5.sub (fun j _ hj=>⟨by omega,by omega⟩)
 obtain⟨⟨d0,d1,d2,d3⟩,g0,g1,g2,g3⟩:=aS AJ.hb
 have H5:=Lib.hid (And.intro AJ (And.intro Ib Ic))
 have sQ:¬w5.heap.size=b:=by omega
 have sS:¬b=w5.heap.size:=by omega
 have Qi:b<w5.heap.size:=by omega
 clear AJ Ib hk5 Ic aK hx5
 obtain⟨q,hq⟩:∃q,q=w5.heap.size:=⟨_,rfl⟩
 obtain⟨W6,bA⟩:∃W6,W6=(w5.setCell ⟨b,3,none⟩ (.slice (some ⟨w5.heap.size,0,none⟩) 1 1)).alloc (.cells #[.int .i64 e.kind,.slice o7 e.names.length q7,.slice o8 e.ends.length q8,.slice o9 e.parts.length q9] 58):=⟨_,rfl⟩
 have wW:BI w W6 p b w.heap.size U (d+1) k1 wv tv rv ti ri (.int .i64 3) (.slice o2 ns.length q2) (.slice none 0 0) (.slice (some ⟨q,0,none⟩) 1 1):=by
  rw[bA,hq];exact(BI.Lr HX.out H5.out.1 _ hwb hbr).new _ hbp hpr
 have Ie : KP (fun j => w.heap.size < j ∧ j ≠ b) W6 (fun w' => Row w' (.slice o2 ns.length q2) ns.length (strs ns)) := by
  rw[bA];exact vU (nP H5.out.2.1)
 have Ig : KP (fun j => w.heap.size < j ∧ j ≠ b) W6 (fun w' => w'.heap[q]? = some (.cells #[.int .i64 e.kind, .slice o7 e.names.length q7, .slice o8 e.ends.length q8, .slice o9 e.parts.length q9] 58 (0, 0)) ∧ bU w' e (.slice o7 e.names.length q7) (.slice o8 e.ends.length q8) (.slice o9 e.parts.length q9)) := by
  rw[bA]
  intro w' hag
  refine⟨KP.block (o:=.cells #[.int .i64 e.kind,.slice o7 e.names.length q7,.slice o8 e.ends.length q8,.slice o9 e.parts.length q9] 58 (0,0)) ?_ ⟨by omega,by omega⟩ w' hag,vU (nP H5.out.2.2) w' hag⟩
  have:=heap_alloc_new (w5.setCell ⟨b,3,none⟩ (.slice (some ⟨w5.heap.size,0,none⟩) 1 1)) (.cells #[.int .i64 e.kind,.slice o7 e.names.length q7,.slice o8 e.ends.length q8,.slice o9 e.parts.length q9] 58)
  rw[hq]
  simpa [World.setCell] using this
 have Zx:b<W6.heap.size:=lt_of_some wW.hb
 have H6:=Lib.hid (And.intro wW (And.intro Ie Ig))
 have kH:=Lib.hid bA
 have WH:=Lib.hid hq
 obtain⟨q5,Ih⟩:=hU.v.at wW.x.le
 have hn5:=hU.pl _ _ Ih
 have RH:=Lib.hid Ih
 clear Ih
 clear wW Ie Ig bA hq d0 d1 d2
 go_wp2_with (with_reducible rw[←kH.out])
 simp only[←WH.out]
 clear d3 g0 g1 g2 g3 sQ sS Qi
 refine(aH 3 ⟨#[58]⟩ _).mono ?_
 rintro x wt5 ⟨b15,WI,rfl,hbx,hbt⟩
 have rQ:=Lib.hid (And.intro (H6.out.1.x.moved hbt) (And.intro hbx hbt))
 clear hbx hbt
 go_wp2_with fail
 refine(jg N p k1 (d+1) U wv tv rv ti ri 3 ⟨#[58]⟩ b15 WI q5 _ (by decide) rQ.out.1 RH.out rQ.out.2.1 ?_ ?_ hn5).mono ?_
 · intro e;have h1:=rQ.out.1.hh;rw[←e,rQ.out.2.1.h1] at h1;cases h1
 · intro e;have h1:=rQ.out.1.hh;rw[←e,rQ.out.2.1.h2] at h1;cases h1
 rintro x w7 (hbad|⟨jG,rfl,eF,hx7⟩)
 · obtain ⟨c9, z9, rfl, aO, aP, aQ, aR⟩ := hbad
   have HF:=Lib.hid (PB.mk aO aP aQ (H6.out.1.c.trans ((Ch.of rQ.out.2.2).trans aR)))
   clear aO aP aQ aR
   go_wp2_with fail
   exact⟨rfl,HF.out⟩
 have WJ:=Lib.hid (hU.Ke (c:=58) RH.out jG)
 clear jG
 replace eF:=(Ch.of (p:=p) rQ.out.2.2).trans eF
 have Zy:=eF.size
 have H7:=Lib.hid (And.intro (H6.out.1.to eF hx7 hbp hpr) (And.intro (nU H6.out.2.1 eF qE) (nU H6.out.2.2 eF qE)))
 clear eF hx7
 go_wp2_with fail
 refine(wV N p (k1+1) (d+1) U V hU wv tv rv ti ri _ H7.out.1.x).mono ?_
 rintro x w8 (hbad|⟨es,v8,j2,rfl,WK,Ii,hc8,jQ⟩)
 · obtain ⟨c9, z9, rfl, aO, aP, aQ, aR⟩ := hbad
   have HF:=Lib.hid (PB.mk aO aP aQ (H7.out.1.c.trans aR))
   clear aO aP aQ aR
   go_wp2_with fail
   exact⟨rfl,HF.out⟩
 have Zz:=Lib.hid WK
 clear WK
 obtain⟨o6,q6,rfl⟩:=au Ii
 have AL:=H7.out.1.to hc8 jQ hbp hpr
 have Ij:=Ik (r:=w.heap.size) (b:=b) Ii (by omega) (by omega)
 obtain⟨⟨d0,d1,d2,d3⟩,g0,g1,g2,g3⟩:=aS AL.hb
 obtain⟨W9,bP⟩:∃W9,W9=w8.setCell ⟨b,2,none⟩ (.slice o6 es.length q6):=⟨_,rfl⟩
 have qF:=BI.set2 HX.out AL (.slice o6 es.length q6) hwb hbr
 have Il : KP (fun j => w.heap.size < j ∧ j ≠ b) W9 (fun w' => bU w' (.mk 3 ns es [e]) (.slice o2 ns.length q2) (.slice o6 es.length q6) (.slice (some ⟨q, 0, none⟩) 1 1)) := by
  rw[bP]
  intro w' hag
  have h9:=nP (nU H7.out.2.2 hc8 qE) w' hag
  exact RJ (nP (nU H7.out.2.1 hc8 qE) w' hag) (nP Ij w' hag) h9.1 h9.2
 rw[←bP] at qF
 have jK:=Lib.hid (show QI w W9 p b w.heap.size U (d+1) j2 wv tv rv ti ri (.mk 3 ns es [e]) (.slice o2 ns.length q2) (.slice o6 es.length q6) (.slice (some ⟨q,0,none⟩) 1 1) from⟨qF.x,qF.c,qF.hb,qF.hr,Il⟩)
 have uf:=Lib.hid bP
 have hpb:p≠b:=fun e=>hbp e.symm
 clear AL qF Il Ij Ii hc8 jQ bP
 go_wp2_with (with_reducible rw[←uf.out])
 clear d0 d1 d2 d3 g0 g1 g2 g3
 go_wp2_with fail
 refine(Eh N p j2 d U V hU wv tv rv ti ri 62 _ jK.out.x Kg.out.2).mono ?_
 rintro x QN (hbad|⟨ZA,rfl,Dn,Qj⟩)
 · obtain ⟨c9, z9, rfl, aO, aP, aQ, aR⟩ := hbad
   have HF:=Lib.hid (PB.mk aO aP aQ (jK.out.c.trans aR))
   clear aO aP aQ aR
   go_wp2_with fail
   exact⟨rfl,HF.out⟩
 exact absurd ⟨_,_,.inn Kg.out.1 Kg.out.2 Hf.out Cu.out nk.out WJ.out Zz.out ZA⟩ Ct.out
theorem NJ (N p k d:Nat) (U:List Uw) (V:Pm.Ws) (hU:lS N U V) (wv tv rv ti ri:Value) (w:World) (h:PI w p U k d wv tv rv ti ri) (hno:¬ ∃e j,Pm.nT V d k e j)
 (hin:∀w,PI w p U k d wv tv rv ti ri→Calls Tryz.prog 182 #[.pointer (some ⟨p,0,none⟩)] w fun x w'=>PB N p w x w')
 (hpr:∀w,PI w p U k d wv tv rv ti ri→Calls Tryz.prog 183 #[.pointer (some ⟨p,0,none⟩)] w fun x w'=>PB N p w x w') :
 Calls Tryz.prog 164 #[.pointer (some ⟨p,0,none⟩)] w fun x w'=>PB N p w x w':=by
 have dw:=h.lt
 have hne:w.heap.size≠p:=by omega
 have hbel:=ah (Below.refl w.heap.size w) (.cells #[.int .i64 0,.slice none 0 0,.slice none 0 0,.slice none 0 0] 58)
 have HX:=Lib.hid h
 have H0:=Lib.hid (And.intro (h.moved hbel) (And.intro (heap_alloc_new w (.cells #[.int .i64 0,.slice none 0 0,.slice none 0 0,.slice none 0 0] 58)) (Ch.of (p:=p) hbel)))
 clear h hbel
 have Ct:=Lib.hid hno
 have HI:=Lib.hid hin
 have HJ:=Lib.hid hpr
 have hs2:¬Pm.sg V k 95:=fun e=>hno ⟨_,_,.well e⟩
 have HS2:=Lib.hid hs2
 clear hin hpr hno hs2
 go_enter Tryz.func164,Tryz.ntmps164
 obtain⟨q1,hq1⟩:=hU.v.at H0.out.1.le
 have lN:=cZ hU.v hq1 123
 have kR:=Lib.hid hq1
 have HT1:=Lib.hid lN
 clear hq1 lN
 go_wp2_with fail
 refine(iD p k d U wv tv rv ti ri ⟨#[123]⟩ q1 _ H0.out.1 kR.out).mono ?_
 rintro x w1 ⟨rfl,hb1⟩
 by_cases hs1:Pm.sg V k ((123:UInt8).toNat:Int)
 · rw [HT1.out, decide_eq_true hs1]
   have H1:=Lib.hid (And.intro (H0.out.1.moved hb1) (H0.out.2.2.trans (Ch.of hb1)))
   clear hb1 hs1
   go_wp2_with fail
   refine(zO N p k d U V hU wv tv rv ti ri _ H1.out.1).mono ?_
   rintro x w2 (hbad|⟨ns,v,j,rfl,⟨f1,f2,f3⟩,_⟩)
   · obtain ⟨c9, z9, rfl, aO, aP, aQ, aR⟩ := hbad
     have HF:=Lib.hid (PB.mk aO aP aQ (H1.out.2.trans aR))
     clear aO aP aQ aR
     go_wp2_with fail
     exact⟨rfl,HF.out⟩
   exact absurd ⟨_,_,.tok f1 f2 f3⟩ Ct.out
 rw[HT1.out,decide_eq_false hs1]
 clear hs1
 have H1:=Lib.hid (And.intro (H0.out.1.moved hb1) (And.intro ((hb1.block _ (lt_of_some H0.out.2.1)).trans H0.out.2.1) (H0.out.2.2.trans (Ch.of hb1))))
 clear hb1
 obtain⟨q2,hq2⟩:=hU.v.at H1.out.1.le
 have bG:=cZ hU.v hq2 95
 rw[decide_eq_false (show ¬Pm.sg V k ((95:UInt8).toNat:Int) from HS2.out)] at bG
 have gM:=Lib.hid hq2
 have HT2:=Lib.hid bG
 clear hq2 bG
 go_wp2_with fail
 refine(aH 3 ⟨#[95]⟩ _).mono ?_
 rintro x lQ ⟨b12,iQ,rfl,hbx,hbt⟩
 have aF:=Lib.hid (And.intro (H1.out.1.moved hbt) (And.intro hbx hbt))
 clear hbx hbt
 go_wp2_with fail
 refine(bV p k d U wv tv rv ti ri 3 ⟨#[95]⟩ b12 iQ q2 _ (by decide) aF.out.1 gM.out aF.out.2.1 ?_ ?_).mono ?_
 · intro e;have h1:=aF.out.1.hh;rw[←e,aF.out.2.1.h1] at h1;cases h1
 · intro e;have h1:=aF.out.1.hh;rw[←e,aF.out.2.1.h2] at h1;cases h1
 rintro x w2 ⟨rfl,hc2,hx2⟩
 replace hc2:=(Ch.of (p:=p) aF.out.2.2).trans hc2
 rw[HT2.out] at hx2 ⊢
 rw[if_neg (by decide)] at hx2
 have H2:=Lib.hid (And.intro hx2 (And.intro ((hc2.block _ (lt_of_some H1.out.2.1) hne).trans H1.out.2.1) (H1.out.2.2.trans hc2)))
 clear hx2 hc2
 obtain⟨q3,hq3⟩:=hU.v.at H2.out.1.le
 have gJ:=cZ hU.v hq3 60
 have jJ:=Lib.hid hq3
 have HT3:=Lib.hid gJ
 clear hq3 gJ
 go_wp2_with fail
 refine(iD p k d U wv tv rv ti ri ⟨#[60]⟩ q3 _ H2.out.1 jJ.out).mono ?_
 rintro x w3 ⟨rfl,hb3⟩
 have H3:=Lib.hid (And.intro (H2.out.1.moved hb3) (H2.out.2.2.trans (Ch.of hb3)))
 clear hb3
 by_cases hs3:Pm.sg V k ((60:UInt8).toNat:Int)
 · rw [HT3.out, decide_eq_true hs3]
   clear hs3
   go_wp2_with fail
   refine(HI.out _ H3.out.1).mono ?_
   rintro x w4 hbad
   obtain⟨c9,z9,rfl,aO,aP,aQ,aR⟩:=hbad
   have HF:=Lib.hid (PB.mk aO aP aQ (H3.out.2.trans aR))
   clear aO aP aQ aR
   go_wp2_with fail
   exact⟨rfl,HF.out⟩
 · rw [HT3.out, decide_eq_false hs3]
   clear hs3
   go_wp2_with fail
   refine(HJ.out _ H3.out.1).mono ?_
   rintro x w4 hbad
   obtain⟨c9,z9,rfl,aO,aP,aQ,aR⟩:=hbad
   have HF:=Lib.hid (PB.mk aO aP aQ (H3.out.2.trans aR))
   clear aO aP aQ aR
   go_wp2_with fail
   exact⟨rfl,HF.out⟩
theorem Cv (p:Nat) (U:List Uw) (V:Pm.Ws) (hV:iq V U) (wv tv rv ti ri:Value):∀ {d k:Nat} {e:PT} {k':Nat},Pm.rE V d k e k'→k<k'∧CP p U wv tv rv ti ri 123 d k e k':=by
 intro d k e k' h
 refine Pm.rE.rec
  (motive_1:=fun d k e k' _=>k<k'∧CP p U wv tv rv ti ri 95 d k e k')
  (motive_2:=fun d a k e k' _=>k≤k'∧pX V (fun k b k'=>k<k'∧CP p U wv tv rv ti ri 123 d k b k') a k e k')
  (motive_3:=fun d k e k' _=>k<k'∧CP p U wv tv rv ti ri 123 d k e k')
  (motive_4:=fun d a k e k' _=>k≤k'∧pW V (fun k b k'=>k<k'∧CP p U wv tv rv ti ri 143 d k b k') a k e k')
  (motive_5:=fun d k e k' _=>k<k'∧CP p U wv tv rv ti ri 143 d k e k')
  (motive_6:=fun a k e k' _=>k≤k'∧yR V a k e k')
  (motive_7:=fun d k e k' _=>k<k'∧CP p U wv tv rv ti ri 164 d k e k') ?_ ?_ ?_ ?_ ?_ ?_ ?_ ?_ ?_ ?_ ?_ ?_ ?_ ?_ h
 · intro d k k1 k2 a e _ _ ih1 ih2
   exact⟨by omega,fun w hx=>um p k d k1 k2 U V hV wv tv rv ti ri a e w hx _ (fun k b k' h=>Nat.le_of_lt h.1) ih1 ih2.2 (fun w k a k1 hp hx=>hp.2 w hx)⟩
 · intro d k a h
   exact⟨Nat.le_refl _,.stop h⟩
 · intro d k k1 k2 a b e h _ _ ih1 ih2
   exact⟨by omega,.go h ih1 ih2.2⟩
 · intro d k k1 k2 a e _ _ ih1 ih2
   exact⟨by omega,fun w hx=>AO p k d k1 k2 U V hV wv tv rv ti ri a e w hx _ (fun k b k' h=>h.1) ih1 ih2.2 (fun w k a k1 hp hx=>hp.2 w hx)⟩
 · intro d k a h
   exact⟨Nat.le_refl _,.stop h⟩
 · intro d k k1 k2 a b e h _ _ ih1 ih2
   exact⟨by omega,.go h ih1 ih2.2⟩
 · intro d k k1 k2 a e _ _ ih1 ih2
   exact⟨by omega,fun w hx=>yS p k d k1 k2 U V hV wv tv rv ti ri a e w hx ih2.2 (fun w hx=>ih1.2 w hx)⟩
 · intro k a h
   exact⟨Nat.le_refl _,.stop h⟩
 · intro k k2 a e h _ ih
   exact⟨by omega,.go h ih.2⟩
 · intro d k j ns h n h2
   have h5:=iR n
   exact⟨by omega,fun w hx=>uo p k d j U V hV wv tv rv ti ri ns w hx h n h2⟩
 · intro d k h
   exact⟨by omega,fun w hx=>rF p k d U V hV wv tv rv ti ri w hx h⟩
 · intro d k j k1 j2 ns es e h hd n h2 _ h3 n2 h4 ih
   have h5:=iR n
   have h6:=iR n2
   exact⟨by omega,fun w hx=>uY p k d (j2+1) U V hV wv tv rv ti ri _ w hx h (fun w hx=>Dp p k d j k1 j2 U V hV wv tv rv ti ri ns es e w hx h hd n h2 h3 n2 h4 (fun w hx=>ih.2 w hx))⟩
 · intro d k h hd h2
   exact⟨by omega,fun w hx=>kK p k d (k+1+1) U V hV wv tv rv ti ri _ w hx h (fun w hx=>lK p k d (k+1) U V hV wv tv rv ti ri _ w hx h hd (fun _=>⟨rfl,rfl⟩) h2 (fun hn=>absurd h2 hn))⟩
 · intro d k k1 e h hd h2 _ h3 ih
   exact⟨by omega,fun w hx=>kK p k d (k1+1) U V hV wv tv rv ti ri _ w hx h (fun w hx=>lK p k d k1 U V hV wv tv rv ti ri _ w hx h hd (fun h9=>absurd h9 h2) h3 (fun _ w hx=>ih.2 w hx))⟩
theorem zQ (p:Nat) (U:List Uw) (V:Pm.Ws) (hV:iq V U) (wv tv rv ti ri:Value):∀ {d k:Nat} {e:PT} {k':Nat},Pm.nV V d k e k'→k<k'∧CP p U wv tv rv ti ri 143 d k e k':=by
 intro d k e k' h
 refine Pm.nV.rec
  (motive_1:=fun d k e k' _=>k<k'∧CP p U wv tv rv ti ri 95 d k e k')
  (motive_2:=fun d a k e k' _=>k≤k'∧pX V (fun k b k'=>k<k'∧CP p U wv tv rv ti ri 123 d k b k') a k e k')
  (motive_3:=fun d k e k' _=>k<k'∧CP p U wv tv rv ti ri 123 d k e k')
  (motive_4:=fun d a k e k' _=>k≤k'∧pW V (fun k b k'=>k<k'∧CP p U wv tv rv ti ri 143 d k b k') a k e k')
  (motive_5:=fun d k e k' _=>k<k'∧CP p U wv tv rv ti ri 143 d k e k')
  (motive_6:=fun a k e k' _=>k≤k'∧yR V a k e k')
  (motive_7:=fun d k e k' _=>k<k'∧CP p U wv tv rv ti ri 164 d k e k') ?_ ?_ ?_ ?_ ?_ ?_ ?_ ?_ ?_ ?_ ?_ ?_ ?_ ?_ h
 · intro d k k1 k2 a e _ _ ih1 ih2
   exact⟨by omega,fun w hx=>um p k d k1 k2 U V hV wv tv rv ti ri a e w hx _ (fun k b k' h=>Nat.le_of_lt h.1) ih1 ih2.2 (fun w k a k1 hp hx=>hp.2 w hx)⟩
 · intro d k a h
   exact⟨Nat.le_refl _,.stop h⟩
 · intro d k k1 k2 a b e h _ _ ih1 ih2
   exact⟨by omega,.go h ih1 ih2.2⟩
 · intro d k k1 k2 a e _ _ ih1 ih2
   exact⟨by omega,fun w hx=>AO p k d k1 k2 U V hV wv tv rv ti ri a e w hx _ (fun k b k' h=>h.1) ih1 ih2.2 (fun w k a k1 hp hx=>hp.2 w hx)⟩
 · intro d k a h
   exact⟨Nat.le_refl _,.stop h⟩
 · intro d k k1 k2 a b e h _ _ ih1 ih2
   exact⟨by omega,.go h ih1 ih2.2⟩
 · intro d k k1 k2 a e _ _ ih1 ih2
   exact⟨by omega,fun w hx=>yS p k d k1 k2 U V hV wv tv rv ti ri a e w hx ih2.2 (fun w hx=>ih1.2 w hx)⟩
 · intro k a h
   exact⟨Nat.le_refl _,.stop h⟩
 · intro k k2 a e h _ ih
   exact⟨by omega,.go h ih.2⟩
 · intro d k j ns h n h2
   have h5:=iR n
   exact⟨by omega,fun w hx=>uo p k d j U V hV wv tv rv ti ri ns w hx h n h2⟩
 · intro d k h
   exact⟨by omega,fun w hx=>rF p k d U V hV wv tv rv ti ri w hx h⟩
 · intro d k j k1 j2 ns es e h hd n h2 _ h3 n2 h4 ih
   have h5:=iR n
   have h6:=iR n2
   exact⟨by omega,fun w hx=>uY p k d (j2+1) U V hV wv tv rv ti ri _ w hx h (fun w hx=>Dp p k d j k1 j2 U V hV wv tv rv ti ri ns es e w hx h hd n h2 h3 n2 h4 (fun w hx=>ih.2 w hx))⟩
 · intro d k h hd h2
   exact⟨by omega,fun w hx=>kK p k d (k+1+1) U V hV wv tv rv ti ri _ w hx h (fun w hx=>lK p k d (k+1) U V hV wv tv rv ti ri _ w hx h hd (fun _=>⟨rfl,rfl⟩) h2 (fun hn=>absurd h2 hn))⟩
 · intro d k k1 e h hd h2 _ h3 ih
   exact⟨by omega,fun w hx=>kK p k d (k1+1) U V hV wv tv rv ti ri _ w hx h (fun w hx=>lK p k d k1 U V hV wv tv rv ti ri _ w hx h hd (fun h9=>absurd h9 h2) h3 (fun _ w hx=>ih.2 w hx))⟩
theorem Cw (V:Pm.Ws):∀(n k:Nat) (a:PT),V.length-k≤n→∃e k2,Pm.uq V a k e k2
 | 0, k, a, h => ⟨_, _, .stop (fun hs => by
  unfold Pm.sg at hs
  rw[List.getElem?_eq_none (by omega)] at hs
  cases hs)⟩
 | n + 1, k, a, h => by
  by_cases hs:Pm.sg V k 42
  · obtain ⟨e, k2, hr⟩ := Cw V n (k + 1) (.mk 7 [] [] [a]) (by omega)
    exact⟨e,k2,.go hs hr⟩
  · exact⟨_,_,.stop hs⟩
theorem pW.ZB {V : Pm.Ws} {d : Nat} {a e : PT} {k k2 : Nat} (h : pW V (fun k b k' => Pm.nV V d k b k') a k e k2) : Pm.wX V d a k e k2 := by
 induction h with
 | stop h=>exact .stop h
 | go h p _ ih=>exact .go h p ih
theorem pX.XG {V : Pm.Ws} {d : Nat} {a e : PT} {k k2 : Nat} (h : pX V (fun k b k' => Pm.rE V d k b k') a k e k2) : Pm.uw V d a k e k2 := by
 induction h with
 | stop h=>exact .stop h
 | go h p _ ih=>exact .go h p ih
theorem yK (N p:Nat) (U:List Uw) (V:Pm.Ws) (hU:lS N U V) (wv tv rv ti ri:Value):∀(n k d:Nat),U.length-k≤n→d≤40→∀w,PI w p U k d wv tv rv ti ri →
 Calls Tryz.prog 95 #[.pointer (some ⟨p,0,none⟩)] w fun x w'=>PB N p w x w'∨∃e j,Pm.iT V d k e j∧mR w w' e x∧Ch w w' p∧PI w' p U j d wv tv rv ti ri:=by
 intro n
 induction n with
 | zero=>intro k d hk _ w hx;have:=hx.le;omega
 | succ n ih =>
  intro k d hk hd w hx
  by_cases hP:∃e j,Pm.iT V d k e j
  · obtain ⟨e, j, hP⟩ := hP
    exact((jf p U V hU.v wv tv rv ti ri hP).2 w hx).mono fun x w' h=>.inr ⟨e,j,hP,h⟩
  · have XH : ∀ ki, k ≤ ki → (¬ ∃ e j, Pm.nT V d ki e j) → ∀ w, PI w p U ki d wv tv rv ti ri → Calls Tryz.prog 164 #[.pointer (some ⟨p, 0, none⟩)] w fun x w' => PB N p w x w' := fun ki hki hno w hx =>
     NJ N p ki d U V hU wv tv rv ti ri w hx hno
      (fun w hx=>Tk N p ki d U V hU wv tv rv ti ri w hx hd hno (fun qW m hm w hx=>ih m (d+1) (by have:=hx.le;omega) (by omega) w hx))
      (fun w hx=>Jd N p ki d U V hU wv tv rv ti ri w hx hd hno (fun qW w hx=>ih (ki+1) (d+1) (by have:=hx.le;omega) (by omega) w hx))
    have RL : ∀ ki, k ≤ ki → (¬ ∃ e j, Pm.nV V d ki e j) → ∀ w, PI w p U ki d wv tv rv ti ri → Calls Tryz.prog 143 #[.pointer (some ⟨p, 0, none⟩)] w fun x w' => PB N p w x w' := fun ki hki hno w hx =>
     Lm N p ki d U wv tv rv ti ri w hx (fun w hx => XH ki hki (fun ⟨a, k1, ha⟩ => by
      obtain⟨e,k2,hr⟩:=Cw V _ k1 a (Nat.le_refl _)
      exact hno ⟨e,k2,.mk ha hr⟩) w hx)
    have WL : ∀ ki, k ≤ ki → (¬ ∃ e j, Pm.rE V d ki e j) → ∀ w, PI w p U ki d wv tv rv ti ri → Calls Tryz.prog 123 #[.pointer (some ⟨p, 0, none⟩)] w fun x w' => PB N p w x w' := fun ki hki hno w hx => by
     by_cases hp:∃a k1,Pm.nV V d ki a k1
     · obtain ⟨a, k1, hp⟩ := hp
       exact Qg N p ki d k1 U V hU.v wv tv rv ti ri a w hx (fun k b k' => Pm.nV V d k b k') (fun k b k' h => (zQ p U V hU.v wv tv rv ti ri h).1) hp (fun ⟨e, k2, hl⟩ => hno ⟨e, k2, .mk hp hl.ZB⟩)
        (fun w k a k1 h hx=>(zQ p U V hU.v wv tv rv ti ri h).2 w hx) (fun w kj hkj hn hx=>RL kj (by omega) hn w hx)
     · exact NI N p ki d U wv tv rv ti ri w hx (fun w hx=>RL ki hki hp w hx)
    refine(?_:Calls _ _ _ _ (PB N p w)).mono fun x w' h=>.inl h
    by_cases hp:∃a k1,Pm.rE V d k a k1
    · obtain ⟨a, k1, hp⟩ := hp
      exact Hw N p k d k1 U V hU.v wv tv rv ti ri a w hx (fun k b k' => Pm.rE V d k b k') (fun k b k' h => Nat.le_of_lt (Cv p U V hU.v wv tv rv ti ri h).1) hp (fun ⟨e, k2, hl⟩ => hP ⟨e, k2, .mk hp hl.XG⟩)
       (fun w k a k1 h hx=>(Cv p U V hU.v wv tv rv ti ri h).2 w hx) (fun w kj hkj hn hx=>WL kj hkj hn w hx)
    · exact EB N p k d U wv tv rv ti ri w hx (fun w hx=>WL k (Nat.le_refl _) hp w hx)
end Go.Proofs.YtfkmajjgkdjncaaGreatDoor
