import Derived.Test.YtfkmajjgkdjncaaGreatDoorPsAll
import Derived.Test.YtfkmajjgkdjncaaGreatDoorPsClass
import Derived.Test.YtfkmajjgkdjncaaGreatDoorPmBack
import Derived.Test.YtfkmajjgkdjncaaGreatDoorGLim
import Derived.Test.YtfkmajjgkdjncaaGreatDoorPsLi
set_option linter.unusedVariables false
set_option linter.unusedSimpArgs false
set_option maxHeartbeats 4000000
set_option maxRecDepth 100000
namespace Go.Proofs.YtfkmajjgkdjncaaGreatDoor
open Go.RowKit De Wd
inductive Cy (V:Pm.Ws):Bool→Nat→List ST→Nat→Prop
 | stop {k:Nat} (h:¬Pm.sg V k 94):Cy V false k [] k
 | go {b:Bool} {k k1 k2:Nat} {s:ST} {l:List ST} (hb:b=false→Pm.sg V k 94) (h:Pm.Stp V k s k1) (r:Cy V false k1 l k2):Cy V b k (s::l) k2
theorem Xj {V:Pm.Ws} {k k2:Nat} {l:List ST} (h:Pm.yY V k l k2):Cy V true k l k2∧(Pm.sg V k 94→Cy V false k l k2):=by
 induction h with
 | last h h2=>exact⟨.go (fun e=>by cases e) h (.stop h2),fun hs=>.go (fun _=>hs) h (.stop h2)⟩
 | more h h2 r ih=>exact⟨.go (fun e=>by cases e) h (ih.2 h2),fun hs=>.go (fun _=>hs) h (ih.2 h2)⟩
theorem Cy.inv {V:Pm.Ws} {b:Bool} {k k2:Nat} {l:List ST} (h:Cy V b k l k2):(b=false∧¬Pm.sg V k 94∧l=[]∧k=k2)∨(∃s m k1,l=s::m∧(b=false→Pm.sg V k 94)∧Pm.Stp V k s k1∧Cy V false k1 m k2):=by
 cases h with
 | stop h=>exact .inl ⟨rfl,h,rfl,rfl⟩
 | go hb h r=>exact .inr ⟨_,_,_,rfl,hb,h,r⟩
theorem Dq {V:Pm.Ws} {k k1:Nat} {s:ST} (h:Pm.Stp V k s k1):(¬Pm.sg V k 94∧s.calls=[]∧Pm.iT V 0 k s.p k1)∨(Pm.sg V k 94∧∃j,Pm.sg V (k+1) 123∧Pm.ny V (k+2) s.calls j∧Pm.sg V j 125∧Pm.iT V 0 (j+1) s.p k1):=by
 cases h with
 | bare h q=>exact .inl ⟨h,rfl,q⟩
 | calls h h1 n h2 q=>exact .inr ⟨h,_,h1,n,h2,q⟩
theorem fq {w:World} {p:Nat} {a b c d e:Value} {t:TypeId} (h:w.heap[p]? = some (.cells #[a,b,c,d,e] t (0,0))):(w.cell? ⟨p,0,none⟩=some a∧w.cell? ⟨p,1,none⟩=some b∧w.cell? ⟨p,2,none⟩=some c∧w.cell? ⟨p,3,none⟩=some d∧w.cell? ⟨p,4,none⟩=some e)∧w.frozen? ⟨p,0,none⟩=false∧w.frozen? ⟨p,1,none⟩=false∧w.frozen? ⟨p,2,none⟩=false∧w.frozen? ⟨p,3,none⟩=false∧w.frozen? ⟨p,4,none⟩=false:=by
 simp[World.cell?,World.frozen?,h]
structure RI (w wx:World) (p r s:Nat) (U:List Uw) (k:Nat) (wv tv rv ti ri:Value) (cls:Int) (free:Bool) (sv:Value) (ps:List (ST×Value×Value×Value×Value)):Prop where
 x:PI wx p U k 0 wv tv rv ti ri
 c:Ch w wx p
 hr:wx.heap[r]? = some (.cells #[.int .i64 cls,.bool free,sv] 63 (0,0))
 st:NA (fun j=>r<j∧j≠s) wx (r+1) sv ps
theorem RI.to {w wx w':World} {p r s k k':Nat} {U:List Uw} {wv tv rv ti ri sv:Value} {cls:Int} {free:Bool} {ps:List (ST×Value×Value×Value×Value)} (h:RI w wx p r s U k wv tv rv ti ri cls free sv ps) (hc:Ch wx w' p) (hx:PI w' p U k' 0 wv tv rv ti ri) (hp:p<r):RI w w' p r s U k' wv tv rv ti ri cls free sv ps:=
 ⟨hx, h.c.trans hc, (hc.block _ (lt_of_some h.hr) (by omega)).trans h.hr, Own.ag h.st (hc.ag.sub (fun j _ hj => by
  rcases hj with h1|h1
  · show j ≠ p
    have h2:r<j:=h1.1
    omega
  · have := h.st.row.lt j h1
    show j≠p
    omega))⟩
theorem RI.at {w wx : World} {p r s s' k : Nat} {U : List Uw} {wv tv rv ti ri sv : Value} {cls : Int} {free : Bool} {ps : List (ST × Value × Value × Value × Value)} (h : RI w wx p r s U k wv tv rv ti ri cls free sv ps) (hs : s' = wx.heap.size ∨ s' = r) : RI w wx p r s' U k wv tv rv ti ri cls free sv ps :=
 ⟨h.x,h.c,h.hr,Own.sub h.st (fun i hi hx=>⟨hx.1,by have:=hx.1;omega⟩)⟩
theorem RI.jF {w wx:World} {p r s i k k0 d0:Nat} {U:List Uw} {wv tv rv ti ri sv dz dA dB dD x:Value} {cls:Int} {free:Bool} {ps:List (ST×Value×Value×Value×Value)} (h:RI w wx p r s U k wv tv rv ti ri cls free sv ps) (h0:PI w p U k0 d0 wv dz dA dB dD) (hrs:r<s) (hwr:w.heap.size≤r) (hown0:∀j,sv.ownBlock=some j→j<s):RI w (wx.setCell ⟨s,i,none⟩ x) p r s U k wv tv rv ti ri cls free sv ps:=by
 refine⟨h0.aL h.x (by omega),h.c.aN (by omega),by rw[Below.heap_setCell _ _ _ _ (by simp;omega)];exact h.hr,Own.ag h.st ((Ag.refl _ _).setCell (fun h=>?_) _)⟩
 rcases h with h1|h1
 · exact h1.2 rfl
 · exact Nat.lt_irrefl _ (hown0 _ h1)
theorem RI.push {w W X w9:World} {p r s k k0 d0:Nat} {U:List Uw} {wv tv rv ti ri sv v9 dz dA dB dD:Value} {cls:Int} {free:Bool} {ps:List (ST×Value×Value×Value×Value)} {q:ST×Value×Value×Value×Value} (h0:PI w p U k0 d0 wv dz dA dB dD) (h:RI w W p r s U k wv tv rv ti ri cls free sv ps) (hpr:p<r) (hwr:w.heap.size≤r)
 (hX:Below W.heap.size W X) (hown:w9.ownsRow (r+1) 60 5 v9 (ps.length+1) (ps.flatMap five++five q)) (hg:X.grownBy w9 sv.ownBlock) (hf:∀k,v9.ownBlock=some k→sv.ownBlock=some k∨X.heap.size≤k) (bF:Below (r+1) X w9)
 (hq:KP (fun j=>(r<j∧j≠s)∧sv.ownBlock≠some j) W (fun w'=>Row w' q.2.1 q.1.calls.length (strs q.1.calls)∧bU w' q.1.p q.2.2.1 q.2.2.2.1 q.2.2.2.2)) :
 RI w (w9.setCell ⟨r,2,none⟩ v9) p r s U k wv tv rv ti ri cls free v9 (ps++[q]):=by
 have hrW:=lt_of_some h.hr
 have hb:Below w.heap.size W w9:=Below.trans (jo h.c.size hX) (jo (by omega) bF)
 have hrX:X.heap[r]? = some (.cells #[.int .i64 cls,.bool free,sv] 63 (0,0)):=(hX.block _ hrW).trans h.hr
 have gL:w9.heap[r]? = some (.cells #[.int .i64 cls,.bool free,sv] 63 (0,0)):=(bF.block r (by omega)).trans hrX
 have hst:=(h.st.moved hX).push (p:=q) hown hg hf (hq.to (Ag.of hX))
 refine⟨h0.aL (h0.under h.x hb) hwr,(h.c.under hb).aN hwr,by simp[World.setCell,Array.getElem?_modify,gL],Own.ag hst ((Ag.refl _ _).setCell (fun h=>?_) _)⟩
 rcases h with h1|h1
 · exact Nat.lt_irrefl _ h1.1
 · have h2 := hst.row.lt r h1
   omega
theorem NV (p k k2 k0 d0:Nat) (U:List Uw) (V:Pm.Ws) (hV:iq V U) (wv tv rv ti ri:Value) (dz dA dB dD:Value) (aD:List (TK×Value×Value)) (aG:List (RU×Value)) (lt lr:List Int) (r0:RU) (w0 w:World) (h0:PI w0 p U k0 d0 wv dz dA dB dD) (aC:LI w0 w p U (k+1) wv tv rv ti ri aD aG lt lr) (hR:Pm.Ir V k r0 k2) :
 Calls Tryz.prog 58 #[.pointer (some ⟨p,0,none⟩)] w fun x w'=>x=.returned (.tuple #[])∧∃rv' sv,LI w0 w' p U k2 wv tv rv' ti ri aD (aG++[(r0,sv)]) lt lr:=by
 have h:=aC.x
 have dw:=h.lt
 have hp0:=h0.lt
 have sJ:=aC.c.size
 have Wv:=Lib.hid (au aC.ru.row)
 have aU:=Lib.hid aC
 have HX0:=Lib.hid h0
 clear aC h0
 have Lf:=ah (Below.refl w.heap.size w)
 have HX:=Lib.hid h
 have HR:=Lib.hid hR
 clear h hR Lf
 go_enter Tryz.func58,Tryz.ntmps58
 go_wp2_with fail
 refine(pY p (k+1) 0 U V hV wv tv rv ti ri r0.cls _ HX.out HR.out.w1 HR.out.cl).mono ?_
 rintro x w1 ⟨rfl,hc1,hx1⟩
 obtain⟨q2,hq2⟩:=hV.at hx1.le
 have H1:=Lib.hid (And.intro hx1 hc1)
 have gM:=Lib.hid hq2
 have hft:tst 1 ⟨#[102,114,101,101]⟩ q2=r0.free:=by
  rw[iV hV hq2 (by decide)]
  by_cases hf:r0.free=true
  · rw[hf];exact decide_eq_true (HR.out.f1 hf).1
  · rw[Bool.eq_false_iff.2 hf];exact decide_eq_false (HR.out.f0 (Bool.eq_false_iff.2 hf)).1
 clear hx1 hc1 hq2
 go_wp2_with fail
 refine(aH 1 ⟨#[102,114,101,101]⟩ _).mono ?_
 rintro x lQ ⟨b12,iQ,rfl,hbx,hbt⟩
 have aF:=Lib.hid (And.intro (H1.out.1.moved hbt) (And.intro hbx hbt))
 clear hbx hbt
 go_wp2_with fail
 refine(bV p (k+1+1) 0 U wv tv rv ti ri 1 ⟨#[102,114,101,101]⟩ b12 iQ q2 _ (by decide) aF.out.1 gM.out aF.out.2.1 ?_ ?_).mono ?_
 · intro e;have h1:=aF.out.1.hh;rw[←e,aF.out.2.1.h1] at h1;cases h1
 · intro e;have h1:=aF.out.1.hh;rw[←e,aF.out.2.1.h2] at h1;cases h1
 rintro x w2 ⟨rfl,hc2,hx2⟩
 replace hc2:=(Ch.of (p:=p) aF.out.2.2).trans hc2
 rw[hft] at hx2 ⊢
 obtain⟨kk,hkk⟩:∃kk,kk=(if r0.free=true then k+1+1+1 else k+1+1):=⟨_,rfl⟩
 rw[←hkk] at hx2
 have Xk:Pm.yY V kk r0.steps k2:=by
  rw[hkk]
  by_cases hf:r0.free=true
  · rw[if_pos hf];exact(HR.out.f1 hf).2
  · rw[if_neg hf];exact(HR.out.f0 (Bool.eq_false_iff.2 hf)).2
 have Zn:k+2≤kk:=by rw[hkk];split<;>omega
 obtain⟨r,hr0⟩:∃r,r=w2.heap.size:=⟨_,rfl⟩
 have Qc:w.heap.size≤w2.heap.size:=Nat.le_trans H1.out.2.size hc2.size
 have hwr:w.heap.size≤r:=by omega
 have hpr:p<r:=by omega
 obtain⟨W2,hW2⟩:∃W2,W2=w2.alloc (.cells #[.int .i64 r0.cls,.bool r0.free,.slice none 0 0] 63):=⟨_,rfl⟩
 have mQ:RI w W2 p r r U kk wv tv rv ti ri r0.cls r0.free (.slice none 0 0) []:=by
  have hb:=ah (Below.refl w2.heap.size w2) (.cells #[.int .i64 r0.cls,.bool r0.free,.slice none 0 0] 63)
  rw[hW2]
  exact⟨hx2.moved hb,(H1.out.2.trans hc2).trans (Ch.of hb),by rw[hr0];exact heap_alloc_new w2 _,Own.nil⟩
 have Ww:=Lib.hid mQ
 have HW2:=Lib.hid hW2
 have wZ:=Lib.hid hr0
 have Qx:=Lib.hid (Xj Xk).1
 have hkl:=hx2.le
 obtain⟨ii,hi,hz0,hz1,hz2⟩:=G6
 obtain⟨ir,uX,hr1,hr2,hr3⟩:=G7
 clear hx2 hc2 hW2 hr0 mQ Xk hkk Qc
 go_wp2_with (with_reducible rw[←HW2.out])
 simp only[←wZ.out]
 go_loopg [3] (U.length-kk) (fun g s3 wx=>∃(pre:List (ST×Value×Value×Value×Value)) (rest:List ST) (ki:Nat) (o4:Option Addr) (c4:Nat) (b:Bool),kk≤ki∧ki+g=U.length∧s3=.bool b∧RI w wx p r r U ki wv tv rv ti ri r0.cls r0.free (.slice o4 pre.length c4) pre∧pre.length≤ki∧r0.steps=pre.map (·.1)++rest∧Cy V b ki rest k2)
 case atStart=>exact⟨[],r0.steps,kk,none,0,true,Nat.le_refl _,by omega,rfl,Ww.out,by simp,by simp,Qx.out⟩
 case round=>
  obtain⟨pre,rest,ki,o4,c4,bb,Zo,hkg,rfl,mQ,hpk,hrs,hst⟩:=hrel
  have hki:=mQ.x.le
  have hsm:=mQ.x.small
  have HI:=Lib.hid mQ
  have Ee:=Lib.hid hrs
  clear mQ hrs
  cases bb with
  | true =>
   rcases hst.inv with⟨hb,-⟩|⟨st,m,k1,rfl,hb,hs,hm⟩
   · cases hb
   have HM:=Lib.hid hm
   clear hst hb hm
   rcases Dq hs with⟨ko,hcs,hpa⟩|⟨ko,jc,Iz,hnm,IB,hpa⟩
   · have HST := Lib.hid (And.intro ko (And.intro hcs hpa))
     clear hs ko hcs hpa
     obtain⟨s,hs0⟩:∃s,s=wr.heap.size:=⟨_,rfl⟩
     have hRs:r<s:=by have:=lt_of_some HI.out.hr;omega
     have hps:s≠p:=by omega
     obtain⟨W0,hW0⟩:∃W0,W0=wr.alloc (.cells #[.slice none 0 0,.int .i64 0,.slice none 0 0,.slice none 0 0,.slice none 0 0] 60):=⟨_,rfl⟩
     have hb0:Below wr.heap.size wr W0:=by rw[hW0];exact ah (Below.refl _ _) _
     have hown0:∀j,(Value.slice o4 pre.length c4).ownBlock=some j→j<s:=fun j e=>by rw[hs0];exact(HI.out.st.row.lt j e).2
     have H0:=Lib.hid (And.intro ((HI.out.at (s':=s) (.inl hs0)).to (Ch.of hb0) (HI.out.x.moved hb0) hpr) (show W0.heap[s]? = some (.cells #[.slice none 0 0,.int .i64 0,.slice none 0 0,.slice none 0 0,.slice none 0 0] 60 (0,0)) by rw[hW0,hs0];exact heap_alloc_new wr _))
     have HW0:=Lib.hid hW0
     have Ce:=Lib.hid hs0
     clear hb0 hW0 hs0
     go_wp2_with (with_reducible rw[←HW0.out])
     simp only[←Ce.out]
     obtain⟨q2,hq2⟩:=hV.at H0.out.1.x.le
     have bG:=cZ hV hq2 94
     rw[decide_eq_false (show ¬Pm.sg V ki ((94:UInt8).toNat:Int) from HST.out.1)] at bG
     have gM:=Lib.hid hq2
     have HT2:=Lib.hid bG
     clear hq2 bG
     refine(aH 3 ⟨#[94]⟩ _).mono ?_
     rintro x lQ ⟨b12,iQ,rfl,hbx,hbt⟩
     have aF:=Lib.hid (And.intro (H0.out.1.x.moved hbt) (And.intro hbx hbt))
     clear hbx hbt
     go_wp2_with fail
     refine(bV p ki 0 U wv tv rv ti ri 3 ⟨#[94]⟩ b12 iQ q2 _ (by decide) aF.out.1 gM.out aF.out.2.1 ?_ ?_).mono ?_
     · intro e;have h1:=aF.out.1.hh;rw[←e,aF.out.2.1.h1] at h1;cases h1
     · intro e;have h1:=aF.out.1.hh;rw[←e,aF.out.2.1.h2] at h1;cases h1
     rintro x w2 ⟨rfl,hc2,hx2⟩
     replace hc2:=(Ch.of (p:=p) aF.out.2.2).trans hc2
     rw[HT2.out] at hx2 ⊢
     rw[if_neg (by decide)] at hx2
     have l7:=(hc2.block _ (lt_of_some H0.out.2) hps).trans H0.out.2
     have hsl2:=lt_of_some l7
     have hi2:=H0.out.1.to hc2 hx2 hpr
     clear hx2 hc2
     have H3:=Lib.hid (And.intro hi2 (And.intro l7 (show KP (fun j=>s<j) w2 (fun w'=>Row w' (.slice none 0 0) st.calls.length (strs st.calls)) from fun w' _=>row_zero _ _ _ (by rw[HST.out.2.1];rfl))))
     clear hi2 l7
     go_wp2_with fail
     have wU:=lt_of_some H3.out.2.1
     refine((jf p U V hV wv tv rv ti ri HST.out.2.2).2 _ H3.out.1.x).mono ?_
     rintro x w5 ⟨⟨n5,e5,l5,rfl,hk5⟩,aK,hx5⟩
     obtain⟨⟨o7,q7,rfl⟩,⟨o8,q8,rfl⟩,⟨o9,q9,rfl⟩⟩:=hk5.here.form
     have dM:=(aK.block _ wU hps).trans H3.out.2.1
     have hi5:=H3.out.1.to aK hx5 hpr
     have pR:=H3.out.2.2.to (aK.ag.sub (fun j _ hj=>by show j≠p;have h2:s<j:=hj;omega))
     have Lg:=lt_of_some dM
     obtain⟨⟨d0,d1,d2,d3,d4⟩,g0,g1,g2,g3,g4⟩:=fq dM
     obtain⟨W6,bA⟩:∃W6,W6=(((w5.setCell ⟨s,1,none⟩ (.int .i64 st.p.kind)).setCell ⟨s,2,none⟩ (.slice o7 st.p.names.length q7)).setCell ⟨s,3,none⟩ (.slice o8 st.p.ends.length q8)).setCell ⟨s,4,none⟩ (.slice o9 st.p.parts.length q9):=⟨_,rfl⟩
     have fU:=(((hi5.jF (x:=.int .i64 st.p.kind) (i:=1) HX.out hRs hwr hown0).jF (x:=.slice o7 st.p.names.length q7) (i:=2) HX.out hRs hwr hown0).jF (x:=.slice o8 st.p.ends.length q8) (i:=3) HX.out hRs hwr hown0).jF (x:=.slice o9 st.p.parts.length q9) (i:=4) HX.out hRs hwr hown0
     rw[←bA] at fU
     have pU : Ag (fun j => j ≠ s) w5 W6 := by
      rw[bA];exact((((Ag.refl _ _).setCell (fun h=>h rfl) _).setCell (fun h=>h rfl) _).setCell (fun h=>h rfl) _).setCell (fun h=>h rfl) _
     have dZ:W6.heap[s]? = some (.cells #[.slice none 0 0,.int .i64 st.p.kind,.slice o7 st.p.names.length q7,.slice o8 st.p.ends.length q8,.slice o9 st.p.parts.length q9] 60 (0,0)):=by rw[bA];simp[World.setCell,Array.getElem?_modify,dM]
     have eB : KP (fun j => (r < j ∧ j ≠ s) ∧ (Value.slice o4 pre.length c4).ownBlock ≠ some j) W6 (fun w' => Row w' (.slice none 0 0) st.calls.length (strs st.calls) ∧ bU w' st.p (.slice o7 st.p.names.length q7) (.slice o8 st.p.ends.length q8) (.slice o9 st.p.parts.length q9)) := by
      intro w' hag
      have hag':Ag (fun j=>s<j) w5 w':=(pU.sub (fun j _ hj=>by show j≠s;have h2:s<j:=hj;omega)).trans (hag.sub (fun j _ hj=>⟨⟨by have h2:s<j:=hj;omega,by have h2:s<j:=hj;omega⟩,fun e=>by have h2:s<j:=hj;have h3:=hown0 j e;omega⟩))
      exact⟨pR w' hag',hk5 w' (hag'.sub (fun j _ hj=>by show s<j;have h2:w2.heap.size≤j:=hj;omega))⟩
     have H6:=Lib.hid (And.intro fU (And.intro dZ eB))
     obtain⟨⟨a0,a1,a2⟩,b0,b1,b2⟩:=ay fU.hr
     obtain⟨⟨p0,p1,p2,p3,p4⟩,f0,f1,f2,f3,f4⟩:=fq dZ
     have Lh:=lt_of_some dZ
     have kH:=Lib.hid bA
     have Li:=hx5.le
     clear hi5 fU dM dZ eB pR hk5 aK hx5 pU bA
     have hlt1:ki<k1:=by exact(jf p U V hV wv tv rv ti ri HST.out.2.2).1
     go_wp2_with (first|(with_reducible rw[←kH.out])|(at_builtin;refine aW _ rfl _ _ 61 rfl (r+1) 60 ii _ 5 104 Tryz.underlying61 hi hz0 hz1 hz2 rfl (by decide) (.slice o4 pre.length c4) pre.length (pre.flatMap five) rfl (by repeat (first|exact H6.out.1.st.row|refine World.ownsRow.alloc ?_ _|refine bX ?_)) _ 1 _ rfl (by exact bE rfl (by simp)) rfl (by simp[Value.oneCell']) (by unfold maxLen;omega) (by omega) (by simp;omega) ?_;intro v9 w9 aI fu dP bF;obtain⟨o6,c6,rfl⟩:=au aI;have gL:=(bF.block r (by omega)).trans ((ah (Below.refl W6.heap.size W6) _).block r (lt_of_some H6.out.1.hr) |>.trans H6.out.1.hr);obtain⟨⟨t0,t1,t2⟩,y0,y1,y2⟩:=ay gL))
     have hpush:=RI.push (q:=(st,.slice none 0 0,.slice o7 st.p.names.length q7,.slice o8 st.p.ends.length q8,.slice o9 st.p.parts.length q9)) HX.out H6.out.1 hpr hwr (ah (Below.refl _ _) _) aI fu dP bF H6.out.2.2
     have jP:=Lib.hid (hpush.at (s':=r) (.inr rfl))
     clear hpush aI fu dP bF gL t0 t1 t2 y0 y1 y2 a0 a1 a2 b0 b1 b2 p0 p1 p2 p3 p4 f0 f1 f2 f3 f4
     go_roundg (U.length-k1)
     case measure=>omega
     case rel=>exact⟨pre++[(st,.slice none 0 0,.slice o7 st.p.names.length q7,.slice o8 st.p.ends.length q8,.slice o9 st.p.parts.length q9)],m,k1,o6,c6,false,by omega,by omega,rfl,by rw[List.length_append];exact jP.out,by rw[List.length_append];show pre.length+1≤k1;omega,by rw[Ee.out];simp,HM.out⟩
   · have HST := Lib.hid (And.intro ko (And.intro Iz (And.intro hnm (And.intro IB hpa))))
     clear hs ko Iz hnm IB hpa
     obtain⟨s,hs0⟩:∃s,s=wr.heap.size:=⟨_,rfl⟩
     have hRs:r<s:=by have:=lt_of_some HI.out.hr;omega
     have hps:s≠p:=by omega
     obtain⟨W0,hW0⟩:∃W0,W0=wr.alloc (.cells #[.slice none 0 0,.int .i64 0,.slice none 0 0,.slice none 0 0,.slice none 0 0] 60):=⟨_,rfl⟩
     have hb0:Below wr.heap.size wr W0:=by rw[hW0];exact ah (Below.refl _ _) _
     have hown0:∀j,(Value.slice o4 pre.length c4).ownBlock=some j→j<s:=fun j e=>by rw[hs0];exact(HI.out.st.row.lt j e).2
     have H0:=Lib.hid (And.intro ((HI.out.at (s':=s) (.inl hs0)).to (Ch.of hb0) (HI.out.x.moved hb0) hpr) (show W0.heap[s]? = some (.cells #[.slice none 0 0,.int .i64 0,.slice none 0 0,.slice none 0 0,.slice none 0 0] 60 (0,0)) by rw[hW0,hs0];exact heap_alloc_new wr _))
     have HW0:=Lib.hid hW0
     have Ce:=Lib.hid hs0
     clear hb0 hW0 hs0
     go_wp2_with (with_reducible rw[←HW0.out])
     simp only[←Ce.out]
     obtain⟨q2,hq2⟩:=hV.at H0.out.1.x.le
     have bG:=cZ hV hq2 94
     rw[decide_eq_true (show Pm.sg V ki ((94:UInt8).toNat:Int) from HST.out.1)] at bG
     have gM:=Lib.hid hq2
     have HT2:=Lib.hid bG
     clear hq2 bG
     refine(aH 3 ⟨#[94]⟩ _).mono ?_
     rintro x lQ ⟨b12,iQ,rfl,hbx,hbt⟩
     have aF:=Lib.hid (And.intro (H0.out.1.x.moved hbt) (And.intro hbx hbt))
     clear hbx hbt
     go_wp2_with fail
     refine(bV p ki 0 U wv tv rv ti ri 3 ⟨#[94]⟩ b12 iQ q2 _ (by decide) aF.out.1 gM.out aF.out.2.1 ?_ ?_).mono ?_
     · intro e;have h1:=aF.out.1.hh;rw[←e,aF.out.2.1.h1] at h1;cases h1
     · intro e;have h1:=aF.out.1.hh;rw[←e,aF.out.2.1.h2] at h1;cases h1
     rintro x w2 ⟨rfl,hc2,hx2⟩
     replace hc2:=(Ch.of (p:=p) aF.out.2.2).trans hc2
     rw[HT2.out] at hx2 ⊢
     rw[if_pos rfl] at hx2
     have l7:=(hc2.block _ (lt_of_some H0.out.2) hps).trans H0.out.2
     have hsl2:=lt_of_some l7
     have hi2:=H0.out.1.to hc2 hx2 hpr
     clear hx2 hc2
     have H2:=Lib.hid (And.intro hi2 l7)
     clear hi2 l7
     go_wp2_with fail
     refine(u6 p (ki+1) 0 jc U V hV wv tv rv ti ri st.calls _ H2.out.1.x HST.out.2.1 HST.out.2.2.1 HST.out.2.2.2.1).mono ?_
     rintro x w3 ⟨v3,rfl,ho3,hc3,hx3⟩
     obtain⟨o3,q3,rfl⟩:=au ho3
     have hs3:=(hc3.block _ hsl2 hps).trans H2.out.2
     have hi3:=H2.out.1.to hc3 hx3 hpr
     obtain⟨⟨d0,d1,d2,d3,d4⟩,g0,g1,g2,g3,g4⟩:=fq hs3
     obtain⟨W3,hW3⟩:∃W3,W3=w3.setCell ⟨s,0,none⟩ (.slice o3 st.calls.length q3):=⟨_,rfl⟩
     have hkc : KP (fun j => s < j) W3 (fun w' => Row w' (.slice o3 st.calls.length q3) st.calls.length (strs st.calls)) := by
      rw[hW3];exact fun w' hag=>Row.owned (dU ho3 (((Ag.refl (fun j=>s<j) w3).setCell (fun h=>Nat.lt_irrefl _ h) _).trans hag) (fun j e=>by have:=(ho3.lt j e).1;show s<j;omega))
     have ug:=hi3.jF (x:=.slice o3 st.calls.length q3) (i:=0) HX.out hRs hwr hown0
     have hh3:W3.heap[s]? = some (.cells #[.slice o3 st.calls.length q3,.int .i64 0,.slice none 0 0,.slice none 0 0,.slice none 0 0] 60 (0,0)):=by rw[hW3];simp[World.setCell,Array.getElem?_modify,hs3]
     rw[←hW3] at ug
     have H3:=Lib.hid (And.intro ug (And.intro hh3 hkc))
     have HW3:=Lib.hid hW3
     clear hi3 ug hh3 hkc hc3 hx3 ho3 hW3
     go_wp2_with (with_reducible rw[←HW3.out])
     clear d0 d1 d2 d3 d4 g0 g1 g2 g3 g4 hs3
     have wU:=lt_of_some H3.out.2.1
     refine((jf p U V hV wv tv rv ti ri HST.out.2.2.2.2).2 _ H3.out.1.x).mono ?_
     rintro x w5 ⟨⟨n5,e5,l5,rfl,hk5⟩,aK,hx5⟩
     obtain⟨⟨o7,q7,rfl⟩,⟨o8,q8,rfl⟩,⟨o9,q9,rfl⟩⟩:=hk5.here.form
     have dM:=(aK.block _ wU hps).trans H3.out.2.1
     have hi5:=H3.out.1.to aK hx5 hpr
     have pR:=H3.out.2.2.to (aK.ag.sub (fun j _ hj=>by show j≠p;have h2:s<j:=hj;omega))
     have Lg:=lt_of_some dM
     obtain⟨⟨d0,d1,d2,d3,d4⟩,g0,g1,g2,g3,g4⟩:=fq dM
     obtain⟨W6,bA⟩:∃W6,W6=(((w5.setCell ⟨s,1,none⟩ (.int .i64 st.p.kind)).setCell ⟨s,2,none⟩ (.slice o7 st.p.names.length q7)).setCell ⟨s,3,none⟩ (.slice o8 st.p.ends.length q8)).setCell ⟨s,4,none⟩ (.slice o9 st.p.parts.length q9):=⟨_,rfl⟩
     have fU:=(((hi5.jF (x:=.int .i64 st.p.kind) (i:=1) HX.out hRs hwr hown0).jF (x:=.slice o7 st.p.names.length q7) (i:=2) HX.out hRs hwr hown0).jF (x:=.slice o8 st.p.ends.length q8) (i:=3) HX.out hRs hwr hown0).jF (x:=.slice o9 st.p.parts.length q9) (i:=4) HX.out hRs hwr hown0
     rw[←bA] at fU
     have pU : Ag (fun j => j ≠ s) w5 W6 := by
      rw[bA];exact((((Ag.refl _ _).setCell (fun h=>h rfl) _).setCell (fun h=>h rfl) _).setCell (fun h=>h rfl) _).setCell (fun h=>h rfl) _
     have dZ:W6.heap[s]? = some (.cells #[.slice o3 st.calls.length q3,.int .i64 st.p.kind,.slice o7 st.p.names.length q7,.slice o8 st.p.ends.length q8,.slice o9 st.p.parts.length q9] 60 (0,0)):=by rw[bA];simp[World.setCell,Array.getElem?_modify,dM]
     have eB : KP (fun j => (r < j ∧ j ≠ s) ∧ (Value.slice o4 pre.length c4).ownBlock ≠ some j) W6 (fun w' => Row w' (.slice o3 st.calls.length q3) st.calls.length (strs st.calls) ∧ bU w' st.p (.slice o7 st.p.names.length q7) (.slice o8 st.p.ends.length q8) (.slice o9 st.p.parts.length q9)) := by
      intro w' hag
      have hag':Ag (fun j=>s<j) w5 w':=(pU.sub (fun j _ hj=>by show j≠s;have h2:s<j:=hj;omega)).trans (hag.sub (fun j _ hj=>⟨⟨by have h2:s<j:=hj;omega,by have h2:s<j:=hj;omega⟩,fun e=>by have h2:s<j:=hj;have h3:=hown0 j e;omega⟩))
      exact⟨pR w' hag',hk5 w' (hag'.sub (fun j _ hj=>by show s<j;have h2:W3.heap.size≤j:=hj;omega))⟩
     have H6:=Lib.hid (And.intro fU (And.intro dZ eB))
     obtain⟨⟨a0,a1,a2⟩,b0,b1,b2⟩:=ay fU.hr
     obtain⟨⟨p0,p1,p2,p3,p4⟩,f0,f1,f2,f3,f4⟩:=fq dZ
     have Lh:=lt_of_some dZ
     have kH:=Lib.hid bA
     have Li:=hx5.le
     clear hi5 fU dM dZ eB pR hk5 aK hx5 pU bA
     have hlt1:ki<k1:=by have h1:=(jf p U V hV wv tv rv ti ri HST.out.2.2.2.2).1;have h2:=iR HST.out.2.2.1;omega
     go_wp2_with (first|(with_reducible rw[←kH.out])|(at_builtin;refine aW _ rfl _ _ 61 rfl (r+1) 60 ii _ 5 104 Tryz.underlying61 hi hz0 hz1 hz2 rfl (by decide) (.slice o4 pre.length c4) pre.length (pre.flatMap five) rfl (by repeat (first|exact H6.out.1.st.row|refine World.ownsRow.alloc ?_ _|refine bX ?_)) _ 1 _ rfl (by exact bE rfl (by simp)) rfl (by simp[Value.oneCell']) (by unfold maxLen;omega) (by omega) (by simp;omega) ?_;intro v9 w9 aI fu dP bF;obtain⟨o6,c6,rfl⟩:=au aI;have gL:=(bF.block r (by omega)).trans ((ah (Below.refl W6.heap.size W6) _).block r (lt_of_some H6.out.1.hr) |>.trans H6.out.1.hr);obtain⟨⟨t0,t1,t2⟩,y0,y1,y2⟩:=ay gL))
     have hpush:=RI.push (q:=(st,.slice o3 st.calls.length q3,.slice o7 st.p.names.length q7,.slice o8 st.p.ends.length q8,.slice o9 st.p.parts.length q9)) HX.out H6.out.1 hpr hwr (ah (Below.refl _ _) _) aI fu dP bF H6.out.2.2
     have jP:=Lib.hid (hpush.at (s':=r) (.inr rfl))
     clear hpush aI fu dP bF gL t0 t1 t2 y0 y1 y2 a0 a1 a2 b0 b1 b2 p0 p1 p2 p3 p4 f0 f1 f2 f3 f4
     go_roundg (U.length-k1)
     case measure=>omega
     case rel=>exact⟨pre++[(st,.slice o3 st.calls.length q3,.slice o7 st.p.names.length q7,.slice o8 st.p.ends.length q8,.slice o9 st.p.parts.length q9)],m,k1,o6,c6,false,by omega,by omega,rfl,by rw[List.length_append];exact jP.out,by rw[List.length_append];show pre.length+1≤k1;omega,by rw[Ee.out];simp,HM.out⟩
  | false =>
   have Qx:=Lib.hid hst
   clear hst
   obtain⟨q9,G8⟩:=hV.at HI.out.x.le
   have qC:=cZ hV G8 94
   have Wx:=Lib.hid G8
   clear G8
   go_wp2_with fail
   refine(iD p ki 0 U wv tv rv ti ri ⟨#[94]⟩ q9 _ HI.out.x Wx.out).mono ?_
   rintro x w9 ⟨rfl,bF⟩
   have G9:=HI.out.to (Ch.of bF) (HI.out.x.moved bF) hpr
   have HI:=Lib.hid G9
   clear bF G9
   rcases Qx.out.inv with⟨-,ko,rfl,rfl⟩|⟨st,m,k1,rfl,hb,hs,hm⟩
   · rw [decide_eq_false (show ¬ Pm.sg V ki ((94 : UInt8).toNat : Int) from ko)] at qC
     rw[qC]
     clear qC ko
     obtain⟨Nw,Ny,p8⟩:=Wv.out
     subst p8
     have aC:=aU.out.ch hp0 HI.out.c HI.out.x (by omega)
     obtain⟨⟨c0,c1,c2,c3,Nz,c5,c6⟩,f0,f1,f2,f3,f4,f5,f6⟩:=aM HI.out.x.hh
     obtain⟨⟨a0,a1,a2⟩,b0,b1,b2⟩:=ay HI.out.hr
     have qY:=Lib.hid aC
     have uS:w0.heap.size≤w9.heap.size:=aC.c.size
     have Zp:=aU.out.n2
     have hpz:p<w9.heap.size:=lt_of_some HI.out.x.hh
     have hrz:r<w9.heap.size:=lt_of_some HI.out.hr
     have hpn:¬p=w9.heap.size:=by omega
     have hrn:¬r=w9.heap.size:=by omega
     have uT:¬w9.heap.size=p:=by omega
     have He:¬w9.heap.size=r:=by omega
     clear aC
     go_wp2_with fail
     go_region_law
      (refine iY _ rfl _ _ 24 rfl w0.heap.size 63 ir _ 3 40 Tryz.underlying24 uX hr1 hr2 hr3 rfl (by decide) (.slice Nw aG.length Ny) aG.length (aG.flatMap three) rfl (by repeat (first | exact qY.out.ru.row | refine World.ownsRow.alloc ?_ _ | refine bX ?_)) _ 1 _ rfl (by first | exact bE rfl (by simp) | exact qD (bE rfl (by simp))) rfl (by simp [Value.oneCell']) (by unfold maxLen; omega) (by omega) (by simp; omega) ?_; intro v8 w8 aI fu dP bF; obtain ⟨o9, c9, rfl⟩ := au aI
       have iy:=(bF.block p hp0).trans (aB (by repeat (first|exact Below.refl _ _|refine Below.drew ?_|refine ah ?_ _)) HI.out.x.hh)
       obtain⟨⟨z0,z1,z2,z3,z4,z5,z6⟩,y0,y1,y2,y3,y4,y5,y6⟩:=aM iy)
     all_goals (
      have hq : KP (fun j => XB p tv ti ri j ∧ (Value.slice Nw aG.length Ny).ownBlock ≠ some j) w9 (fun w' => jD w' (.slice o4 pre.length c4) r0.steps) := by
       intro w' hag
       rw[Ee.out,List.append_nil]
       refine NA.are (Own.ag HI.out.st (hag.sub (fun j _ hj=>?_)))
       have hj2:r<j:=by
        rcases hj with h1|h1
        · exact h1.1
        · have:=(HI.out.st.row.lt j h1).1;omega
       exact⟨⟨by omega,fun e=>by have:=(aU.out.tk.row.lt j e).2;omega,fun e=>by have:=(aU.out.it.lt j e).2;omega,fun e=>by have:=(aU.out.ir.lt j e).2;omega⟩,fun e=>by have:=(aU.out.ru.row.lt j e).2;omega⟩
      have kM:=LI.Ry HX0.out qY.out (q:=(r0,.slice o4 pre.length c4)) (by repeat (first|exact Below.refl _ _|refine Below.drew ?_|refine ah ?_ _)) aI fu dP bF hq (by omega)
      clear z0 z1 z2 z3 z4 z5 z6 y0 y1 y2 y3 y4 y5 y6
      go_end0
      exact⟨rfl,_,_,kM⟩)
   · have Qy := hb rfl
     have HM:=Lib.hid hm
     rw[decide_eq_true (show Pm.sg V ki ((94:UInt8).toNat:Int) from Qy)] at qC
     rw[qC]
     clear hb hm qC
     rcases Dq hs with⟨ko,-⟩|⟨ko,jc,Iz,hnm,IB,hpa⟩
     · exact absurd Qy ko
     have HST:=Lib.hid (And.intro ko (And.intro Iz (And.intro hnm (And.intro IB hpa))))
     clear hs ko Qy Iz hnm IB hpa
     obtain⟨s,hs0⟩:∃s,s=w9.heap.size:=⟨_,rfl⟩
     have hRs:r<s:=by have:=lt_of_some HI.out.hr;omega
     have hps:s≠p:=by omega
     obtain⟨W0,hW0⟩:∃W0,W0=w9.alloc (.cells #[.slice none 0 0,.int .i64 0,.slice none 0 0,.slice none 0 0,.slice none 0 0] 60):=⟨_,rfl⟩
     have hb0:Below w9.heap.size w9 W0:=by rw[hW0];exact ah (Below.refl _ _) _
     have hown0:∀j,(Value.slice o4 pre.length c4).ownBlock=some j→j<s:=fun j e=>by rw[hs0];exact(HI.out.st.row.lt j e).2
     have H0:=Lib.hid (And.intro ((HI.out.at (s':=s) (.inl hs0)).to (Ch.of hb0) (HI.out.x.moved hb0) hpr) (show W0.heap[s]? = some (.cells #[.slice none 0 0,.int .i64 0,.slice none 0 0,.slice none 0 0,.slice none 0 0] 60 (0,0)) by rw[hW0,hs0];exact heap_alloc_new w9 _))
     have HW0:=Lib.hid hW0
     have Ce:=Lib.hid hs0
     clear hb0 hW0 hs0
     go_wp2_with (with_reducible rw[←HW0.out])
     simp only[←Ce.out]
     obtain⟨q2,hq2⟩:=hV.at H0.out.1.x.le
     have bG:=cZ hV hq2 94
     rw[decide_eq_true (show Pm.sg V ki ((94:UInt8).toNat:Int) from HST.out.1)] at bG
     have gM:=Lib.hid hq2
     have HT2:=Lib.hid bG
     clear hq2 bG
     refine(aH 3 ⟨#[94]⟩ _).mono ?_
     rintro x lQ ⟨b12,iQ,rfl,hbx,hbt⟩
     have aF:=Lib.hid (And.intro (H0.out.1.x.moved hbt) (And.intro hbx hbt))
     clear hbx hbt
     go_wp2_with fail
     refine(bV p ki 0 U wv tv rv ti ri 3 ⟨#[94]⟩ b12 iQ q2 _ (by decide) aF.out.1 gM.out aF.out.2.1 ?_ ?_).mono ?_
     · intro e;have h1:=aF.out.1.hh;rw[←e,aF.out.2.1.h1] at h1;cases h1
     · intro e;have h1:=aF.out.1.hh;rw[←e,aF.out.2.1.h2] at h1;cases h1
     rintro x w2 ⟨rfl,hc2,hx2⟩
     replace hc2:=(Ch.of (p:=p) aF.out.2.2).trans hc2
     rw[HT2.out] at hx2 ⊢
     rw[if_pos rfl] at hx2
     have l7:=(hc2.block _ (lt_of_some H0.out.2) hps).trans H0.out.2
     have hsl2:=lt_of_some l7
     have hi2:=H0.out.1.to hc2 hx2 hpr
     clear hx2 hc2
     have H2:=Lib.hid (And.intro hi2 l7)
     clear hi2 l7
     go_wp2_with fail
     refine(u6 p (ki+1) 0 jc U V hV wv tv rv ti ri st.calls _ H2.out.1.x HST.out.2.1 HST.out.2.2.1 HST.out.2.2.2.1).mono ?_
     rintro x w3 ⟨v3,rfl,ho3,hc3,hx3⟩
     obtain⟨o3,q3,rfl⟩:=au ho3
     have hs3:=(hc3.block _ hsl2 hps).trans H2.out.2
     have hi3:=H2.out.1.to hc3 hx3 hpr
     obtain⟨⟨d0,d1,d2,d3,d4⟩,g0,g1,g2,g3,g4⟩:=fq hs3
     obtain⟨W3,hW3⟩:∃W3,W3=w3.setCell ⟨s,0,none⟩ (.slice o3 st.calls.length q3):=⟨_,rfl⟩
     have hkc : KP (fun j => s < j) W3 (fun w' => Row w' (.slice o3 st.calls.length q3) st.calls.length (strs st.calls)) := by
      rw[hW3];exact fun w' hag=>Row.owned (dU ho3 (((Ag.refl (fun j=>s<j) w3).setCell (fun h=>Nat.lt_irrefl _ h) _).trans hag) (fun j e=>by have:=(ho3.lt j e).1;show s<j;omega))
     have ug:=hi3.jF (x:=.slice o3 st.calls.length q3) (i:=0) HX.out hRs hwr hown0
     have hh3:W3.heap[s]? = some (.cells #[.slice o3 st.calls.length q3,.int .i64 0,.slice none 0 0,.slice none 0 0,.slice none 0 0] 60 (0,0)):=by rw[hW3];simp[World.setCell,Array.getElem?_modify,hs3]
     rw[←hW3] at ug
     have H3:=Lib.hid (And.intro ug (And.intro hh3 hkc))
     have HW3:=Lib.hid hW3
     clear hi3 ug hh3 hkc hc3 hx3 ho3 hW3
     go_wp2_with (with_reducible rw[←HW3.out])
     clear d0 d1 d2 d3 d4 g0 g1 g2 g3 g4 hs3
     have wU:=lt_of_some H3.out.2.1
     refine((jf p U V hV wv tv rv ti ri HST.out.2.2.2.2).2 _ H3.out.1.x).mono ?_
     rintro x w5 ⟨⟨n5,e5,l5,rfl,hk5⟩,aK,hx5⟩
     obtain⟨⟨o7,q7,rfl⟩,⟨o8,q8,rfl⟩,⟨o9,q9,rfl⟩⟩:=hk5.here.form
     have dM:=(aK.block _ wU hps).trans H3.out.2.1
     have hi5:=H3.out.1.to aK hx5 hpr
     have pR:=H3.out.2.2.to (aK.ag.sub (fun j _ hj=>by show j≠p;have h2:s<j:=hj;omega))
     have Lg:=lt_of_some dM
     obtain⟨⟨d0,d1,d2,d3,d4⟩,g0,g1,g2,g3,g4⟩:=fq dM
     obtain⟨W6,bA⟩:∃W6,W6=(((w5.setCell ⟨s,1,none⟩ (.int .i64 st.p.kind)).setCell ⟨s,2,none⟩ (.slice o7 st.p.names.length q7)).setCell ⟨s,3,none⟩ (.slice o8 st.p.ends.length q8)).setCell ⟨s,4,none⟩ (.slice o9 st.p.parts.length q9):=⟨_,rfl⟩
     have fU:=(((hi5.jF (x:=.int .i64 st.p.kind) (i:=1) HX.out hRs hwr hown0).jF (x:=.slice o7 st.p.names.length q7) (i:=2) HX.out hRs hwr hown0).jF (x:=.slice o8 st.p.ends.length q8) (i:=3) HX.out hRs hwr hown0).jF (x:=.slice o9 st.p.parts.length q9) (i:=4) HX.out hRs hwr hown0
     rw[←bA] at fU
     have pU : Ag (fun j => j ≠ s) w5 W6 := by
      rw[bA];exact((((Ag.refl _ _).setCell (fun h=>h rfl) _).setCell (fun h=>h rfl) _).setCell (fun h=>h rfl) _).setCell (fun h=>h rfl) _
     have dZ:W6.heap[s]? = some (.cells #[.slice o3 st.calls.length q3,.int .i64 st.p.kind,.slice o7 st.p.names.length q7,.slice o8 st.p.ends.length q8,.slice o9 st.p.parts.length q9] 60 (0,0)):=by rw[bA];simp[World.setCell,Array.getElem?_modify,dM]
     have eB : KP (fun j => (r < j ∧ j ≠ s) ∧ (Value.slice o4 pre.length c4).ownBlock ≠ some j) W6 (fun w' => Row w' (.slice o3 st.calls.length q3) st.calls.length (strs st.calls) ∧ bU w' st.p (.slice o7 st.p.names.length q7) (.slice o8 st.p.ends.length q8) (.slice o9 st.p.parts.length q9)) := by
      intro w' hag
      have hag':Ag (fun j=>s<j) w5 w':=(pU.sub (fun j _ hj=>by show j≠s;have h2:s<j:=hj;omega)).trans (hag.sub (fun j _ hj=>⟨⟨by have h2:s<j:=hj;omega,by have h2:s<j:=hj;omega⟩,fun e=>by have h2:s<j:=hj;have h3:=hown0 j e;omega⟩))
      exact⟨pR w' hag',hk5 w' (hag'.sub (fun j _ hj=>by show s<j;have h2:W3.heap.size≤j:=hj;omega))⟩
     have H6:=Lib.hid (And.intro fU (And.intro dZ eB))
     obtain⟨⟨a0,a1,a2⟩,b0,b1,b2⟩:=ay fU.hr
     obtain⟨⟨p0,p1,p2,p3,p4⟩,f0,f1,f2,f3,f4⟩:=fq dZ
     have Lh:=lt_of_some dZ
     have kH:=Lib.hid bA
     have Li:=hx5.le
     clear hi5 fU dM dZ eB pR hk5 aK hx5 pU bA
     have hlt1:ki<k1:=by have h1:=(jf p U V hV wv tv rv ti ri HST.out.2.2.2.2).1;have h2:=iR HST.out.2.2.1;omega
     go_wp2_with (first|(with_reducible rw[←kH.out])|(at_builtin;refine aW _ rfl _ _ 61 rfl (r+1) 60 ii _ 5 104 Tryz.underlying61 hi hz0 hz1 hz2 rfl (by decide) (.slice o4 pre.length c4) pre.length (pre.flatMap five) rfl (by repeat (first|exact H6.out.1.st.row|refine World.ownsRow.alloc ?_ _|refine bX ?_)) _ 1 _ rfl (by exact bE rfl (by simp)) rfl (by simp[Value.oneCell']) (by unfold maxLen;omega) (by omega) (by simp;omega) ?_;intro v9 w9 aI fu dP bF;obtain⟨o6,c6,rfl⟩:=au aI;have gL:=(bF.block r (by omega)).trans ((ah (Below.refl W6.heap.size W6) _).block r (lt_of_some H6.out.1.hr) |>.trans H6.out.1.hr);obtain⟨⟨t0,t1,t2⟩,y0,y1,y2⟩:=ay gL))
     have hpush:=RI.push (q:=(st,.slice o3 st.calls.length q3,.slice o7 st.p.names.length q7,.slice o8 st.p.ends.length q8,.slice o9 st.p.parts.length q9)) HX.out H6.out.1 hpr hwr (ah (Below.refl _ _) _) aI fu dP bF H6.out.2.2
     have jP:=Lib.hid (hpush.at (s':=r) (.inr rfl))
     clear hpush aI fu dP bF gL t0 t1 t2 y0 y1 y2 a0 a1 a2 b0 b1 b2 p0 p1 p2 p3 p4 f0 f1 f2 f3 f4
     go_roundg (U.length-k1)
     case measure=>omega
     case rel=>exact⟨pre++[(st,.slice o3 st.calls.length q3,.slice o7 st.p.names.length q7,.slice o8 st.p.ends.length q8,.slice o9 st.p.parts.length q9)],m,k1,o6,c6,false,by omega,by omega,rfl,by rw[List.length_append];exact jP.out,by rw[List.length_append];show pre.length+1≤k1;omega,by rw[Ee.out];simp,HM.out⟩
end Go.Proofs.YtfkmajjgkdjncaaGreatDoor
