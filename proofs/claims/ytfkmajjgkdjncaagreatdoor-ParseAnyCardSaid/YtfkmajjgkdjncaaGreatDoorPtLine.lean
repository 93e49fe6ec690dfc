/- Merged. -/
import Derived.Test.YtfkmajjgkdjncaaGreatDoorPtAll
import Derived.Test.YtfkmajjgkdjncaaGreatDoorPdTk5
set_option linter.unusedVariables false
set_option linter.unusedSimpArgs false
set_option maxHeartbeats 4000000
set_option maxRecDepth 100000
namespace Go.Proofs.YtfkmajjgkdjncaaGreatDoor
open Go.RowKit De Wd
theorem lS.Qa {N:Nat} {U:List Uw} {V:Pm.Ws} (h:lS N U V):V.length≤1000:=by have:=h.len;have:=h.v.len;omega
theorem Qb {V:Pm.Ws} {k j:Nat} {l:List ByteArray} (h:Pm.ny V k l j):k+l.length=j∧j≤V.length:=by
 induction h with
 | last h _ _=>exact⟨rfl,(List.getElem?_eq_some_iff.1 h).1⟩
 | more h _ _ ih=>exact⟨by simp;omega,ih.2⟩
theorem zn {V:Pm.Ws} {k j:Nat} {l:List ByteArray} (hV:V.length≤1000) (h:Pm.ny V k l j):l.length≤1000:=by have:=Qb h;omega
theorem AA (k:Int) (n:List ByteArray) (h:n.length≤1000):(PT.mk k n [] []).Fit:=.mk k n [] [] h (by simp) (by simp) (fun i p h=>by simp at h)
theorem J9 (k : Int) (n e : List ByteArray) (h : n.length ≤ 1000) (h2 : e.length ≤ 1000) (p : PT) (hp : p.Fit) : (PT.mk k n e [p]).Fit := .mk k n e [p] h h2 (by simp) (fun i q h => by
 match i,h with
 | 0,h=>cases h;exact hp
 | i+1,h=>simp at h)
theorem Ka (k : Int) (p q : PT) (hp : p.Fit) (hq : q.Fit) : (PT.mk k [] [] [p, q]).Fit := .mk k [] [] [p, q] (by simp) (by simp) (by simp) (fun i r h => by
 match i,h with
 | 0,h=>cases h;exact hp
 | 1,h=>cases h;exact hq
 | i+2,h=>simp at h)
theorem Ed {V:Pm.Ws} (hV:V.length≤1000) {d k:Nat} {e:PT} {k':Nat} (h:Pm.iT V d k e k'):e.Fit:=by
 refine Pm.iT.rec (motive_1:=fun _ _ e _ _=>e.Fit) (motive_2:=fun _ a _ e _ _=>a.Fit→e.Fit) (motive_3:=fun _ _ e _ _=>e.Fit) (motive_4:=fun _ a _ e _ _=>a.Fit→e.Fit) (motive_5:=fun _ _ e _ _=>e.Fit) (motive_6:=fun a _ e _ _=>a.Fit→e.Fit) (motive_7:=fun _ _ e _ _=>e.Fit) ?_ ?_ ?_ ?_ ?_ ?_ ?_ ?_ ?_ ?_ ?_ ?_ ?_ ?_ h
 · intro _ _ _ _ _ _ _ _ h1 h2;exact h2 h1
 · intro _ _ _ _ h;exact h
 · intro _ _ _ _ _ _ _ _ _ _ h1 h2 h;exact h2 (Ka 6 _ _ h h1)
 · intro _ _ _ _ _ _ _ _ h1 h2;exact h2 h1
 · intro _ _ _ _ h;exact h
 · intro _ _ _ _ _ _ _ _ _ _ h1 h2 h;exact h2 (Ka 5 _ _ h h1)
 · intro _ _ _ _ _ _ _ _ h1 h2;exact h2 h1
 · intro _ _ _ h;exact h
 · intro _ _ _ _ _ _ h2 h;exact h2 (J9 7 [] [] (by simp) (by simp) _ h)
 · intro _ _ _ _ _ n _;exact AA 2 _ (zn hV n)
 · intro _ _ _;exact AA 4 [] (by simp)
 · intro _ _ _ _ _ _ _ _ _ _ n _ _ _ n2 _ h;exact J9 3 _ _ (zn hV n) (zn hV n2) _ h
 · intro _ _ _ _ _;exact AA 1 [] (by simp)
 · intro _ _ _ _ _ _ _ _ _ h;exact h
theorem Nv (N p k k0 d0:Nat) (U:List Uw) (V:Pm.Ws) (hU:lS N U V) (wv tv rv ti ri:Value) (dz dA dB dD:Value) (aD:List (TK×Value×Value)) (aG:List (RU×Value)) (lt lr:List Int) (w0 w:World) (h0:PI w0 p U k0 d0 wv dz dA dB dD) (aC:LI w0 w p U (k+1) wv tv rv ti ri aD aG lt lr) :
 Calls Tryz.prog 58 #[.pointer (some ⟨p,0,none⟩)] w fun x w'=>PB N p w x w'∨(x=.returned (.tuple #[])∧∃(r0:RU) (k2:Nat) (rv' sv:Value),k+1<k2∧(r0.steps.length≤1000∧Di r0.steps)∧LI w0 w' p U k2 wv tv rv' ti ri aD (aG++[(r0,sv)]) lt lr):=by
 have h:=aC.x
 have dw:=h.lt
 have hp0:=h0.lt
 have sJ:=aC.c.size
 have Wv:=Lib.hid (au aC.ru.row)
 have aU:=Lib.hid aC
 have HX0:=Lib.hid h0
 clear aC h0
 have Lf:=ah (Below.refl w.heap.size w)
 have HX:=Lib.hid h
 clear h Lf
 go_enter Tryz.func58,Tryz.ntmps58
 go_wp2_with fail
 refine(Cc N p (k+1) 0 U V hU wv tv rv ti ri _ HX.out).mono ?_
 rintro x w1 (hbad|⟨cls,rfl,hc1,hx1⟩)
 · obtain ⟨c9, z9, rfl, aO, aP, aQ, aR⟩ := hbad
   have HF:=Lib.hid (PB.mk aO aP aQ (aR))
   clear aO aP aQ aR
   go_wp2_with fail
   exact⟨rfl,.inl HF.out⟩
 obtain⟨q2,hq2⟩:=hU.v.at hx1.le
 have H1:=Lib.hid (And.intro hx1 hc1)
 have gM:=Lib.hid hq2
 obtain⟨free,hfree⟩:∃b,b=tst 1 ⟨#[102,114,101,101]⟩ q2:=⟨_,rfl⟩
 have hft:=hfree.symm
 clear hfree
 clear hx1 hc1 hq2
 go_wp2_with fail
 refine(aH 1 ⟨#[102,114,101,101]⟩ _).mono ?_
 rintro x lQ ⟨b12,iQ,rfl,hbx,hbt⟩
 have aF:=Lib.hid (And.intro (H1.out.1.moved hbt) (And.intro hbx hbt))
 clear hbx hbt
 go_wp2_with fail
 refine(bV p (k+1+1) 0 U wv tv rv ti ri 1 ⟨#[102,114,101,101]⟩ b12 iQ q2 _ (by decide) aF.out.1 gM.out aF.out.2.1 ?_ ?_).mono ?_
 · intro e;have h1:=aF.out.1.hh;rw[←e,aF.out.2.1.h1] at h1;cases h1
 · intro e;have h1:=aF.out.1.hh;rw[←e,aF.out.2.1.h2] at h1;cases h1
 rintro x w2 ⟨rfl,hc2,hx2⟩
 replace hc2:=(Ch.of (p:=p) aF.out.2.2).trans hc2
 rw[hft] at hx2 ⊢
 obtain⟨kk,hkk⟩:∃kk,kk=(if free=true then k+1+1+1 else k+1+1):=⟨_,rfl⟩
 rw[←hkk] at hx2
 have Zn:k+2≤kk:=by rw[hkk];split<;>omega
 obtain⟨r,hr0⟩:∃r,r=w2.heap.size:=⟨_,rfl⟩
 have Qc:w.heap.size≤w2.heap.size:=Nat.le_trans H1.out.2.size hc2.size
 have hwr:w.heap.size≤r:=by omega
 have hpr:p<r:=by omega
 obtain⟨W2,hW2⟩:∃W2,W2=w2.alloc (.cells #[.int .i64 cls,.bool free,.slice none 0 0] 63):=⟨_,rfl⟩
 have mQ:RI w W2 p r r U kk wv tv rv ti ri cls free (.slice none 0 0) []:=by
  have hb:=ah (Below.refl w2.heap.size w2) (.cells #[.int .i64 cls,.bool free,.slice none 0 0] 63)
  rw[hW2]
  exact⟨hx2.moved hb,(H1.out.2.trans hc2).trans (Ch.of hb),by rw[hr0];exact heap_alloc_new w2 _,Own.nil⟩
 have Ww:=Lib.hid mQ
 have HW2:=Lib.hid hW2
 have wZ:=Lib.hid hr0
 have hkl:=hx2.le
 obtain⟨ii,hi,hz0,hz1,hz2⟩:=G6
 obtain⟨ir,uX,hr1,hr2,hr3⟩:=G7
 clear hx2 hc2 hW2 hr0 mQ hkk Qc
 go_wp2_with (with_reducible rw[←HW2.out])
 simp only[←wZ.out]
 go_loopg [3] (U.length-kk) (fun g s3 wx=>∃(pre:List (ST×Value×Value×Value×Value)) (ki:Nat) (o4:Option Addr) (c4:Nat) (b:Bool),kk≤ki∧ki+g=U.length∧s3=.bool b∧RI w wx p r r U ki wv tv rv ti ri cls free (.slice o4 pre.length c4) pre∧pre.length≤ki∧∀q∈pre,q.1.calls.length≤1000∧q.1.p.Fit)
 case atStart=>exact⟨[],kk,none,0,true,Nat.le_refl _,by omega,rfl,Ww.out,by simp,by simp⟩
 case round=>
  obtain⟨pre,ki,o4,c4,bb,Zo,hkg,rfl,mQ,hpk,hrs⟩:=hrel
  have hki:=mQ.x.le
  have hsm:=mQ.x.small
  have HI:=Lib.hid mQ
  have Ee:=Lib.hid hrs
  clear mQ hrs
  cases bb
  case' false=>
   obtain⟨q9,G8⟩:=hU.v.at HI.out.x.le
   have qC:=cZ hU.v G8 94
   have Wx:=Lib.hid G8
   clear G8
   go_wp2_with fail
   refine(iD p ki 0 U wv tv rv ti ri ⟨#[94]⟩ q9 _ HI.out.x Wx.out).mono ?_
   rintro x w9 ⟨rfl,bF⟩
   have G9:=HI.out.to (Ch.of bF) (HI.out.x.moved bF) hpr
   have HI:=Lib.hid G9
   clear bF G9
   rcases(Classical.em (Pm.sg V ki ((94:UInt8).toNat:Int))).symm with ko|ko
   · rw [decide_eq_false (show ¬ Pm.sg V ki ((94 : UInt8).toNat : Int) from ko)] at qC
     rw[qC]
     clear qC ko
     obtain⟨Nw,Ny,p8⟩:=Wv.out
     subst p8
     have aC:=aU.out.ch hp0 HI.out.c HI.out.x (by omega)
     obtain⟨⟨c0,c1,c2,c3,Nz,c5,c6⟩,f0,f1,f2,f3,f4,f5,f6⟩:=aM HI.out.x.hh
     obtain⟨⟨a0,a1,a2⟩,b0,b1,b2⟩:=ay HI.out.hr
     have qY:=Lib.hid aC
     have uS:w0.heap.size≤w9.heap.size:=aC.c.size
     have Zp:=aU.out.n2
     have hpz:p<w9.heap.size:=lt_of_some HI.out.x.hh
     have hrz:r<w9.heap.size:=lt_of_some HI.out.hr
     have hpn:¬p=w9.heap.size:=by omega
     have hrn:¬r=w9.heap.size:=by omega
     have uT:¬w9.heap.size=p:=by omega
     have He:¬w9.heap.size=r:=by omega
     clear aC
     go_wp2_with fail
     go_region_law
      (refine iY _ rfl _ _ 24 rfl w0.heap.size 63 ir _ 3 40 Tryz.underlying24 uX hr1 hr2 hr3 rfl (by decide) (.slice Nw aG.length Ny) aG.length (aG.flatMap three) rfl (by repeat (first | exact qY.out.ru.row | refine World.ownsRow.alloc ?_ _ | refine bX ?_)) _ 1 _ rfl (by first | exact bE rfl (by simp) | exact qD (bE rfl (by simp))) rfl (by simp [Value.oneCell']) (by unfold maxLen; omega) (by omega) (by simp; omega) ?_; intro v8 w8 aI fu dP bF; obtain ⟨o9, c9, rfl⟩ := au aI
       have iy:=(bF.block p hp0).trans (aB (by repeat (first|exact Below.refl _ _|refine Below.drew ?_|refine ah ?_ _)) HI.out.x.hh)
       obtain⟨⟨z0,z1,z2,z3,z4,z5,z6⟩,y0,y1,y2,y3,y4,y5,y6⟩:=aM iy)
     all_goals (
      have hq : KP (fun j => XB p tv ti ri j ∧ (Value.slice Nw aG.length Ny).ownBlock ≠ some j) w9 (fun w' => jD w' (.slice o4 pre.length c4) (pre.map (·.1))) := by
       intro w' hag
       refine NA.are (Own.ag HI.out.st (hag.sub (fun j _ hj=>?_)))
       have hj2:r<j:=by
        rcases hj with h1|h1
        · exact h1.1
        · have:=(HI.out.st.row.lt j h1).1;omega
       exact⟨⟨by omega,fun e=>by have:=(aU.out.tk.row.lt j e).2;omega,fun e=>by have:=(aU.out.it.lt j e).2;omega,fun e=>by have:=(aU.out.ir.lt j e).2;omega⟩,fun e=>by have:=(aU.out.ru.row.lt j e).2;omega⟩
      have kM:=LI.Ry HX0.out qY.out (q:=((⟨cls,free,pre.map (·.1)⟩:RU),.slice o4 pre.length c4)) (by repeat (first|exact Below.refl _ _|refine Below.drew ?_|refine ah ?_ _)) aI fu dP bF hq (by omega)
      clear z0 z1 z2 z3 z4 z5 z6 y0 y1 y2 y3 y4 y5 y6
      go_end0
      exact .inr ⟨rfl,_,ki,_,_,by omega,⟨by rw[List.length_map];have:=hU.len;omega,fun i s hs=>by obtain⟨q,hq,rfl⟩:=List.mem_map.1 (List.mem_of_getElem? hs);exact Ee.out q hq⟩,kM⟩)
   rw[decide_eq_true ko] at qC
   rw[qC]
   clear qC ko
   obtain⟨wr,hwr⟩:∃z,z=w9:=⟨_,rfl⟩
   subst hwr
  all_goals (
   rcases(Classical.em (Pm.sg V ki ((94:UInt8).toNat:Int))).symm with ko|ko
   · have HST := Lib.hid (And.intro ko True.intro)
     clear ko
     obtain⟨s,hs0⟩:∃s,s=wr.heap.size:=⟨_,rfl⟩
     have hRs:r<s:=by have:=lt_of_some HI.out.hr;omega
     have hps:s≠p:=by omega
     obtain⟨W0,hW0⟩:∃W0,W0=wr.alloc (.cells #[.slice none 0 0,.int .i64 0,.slice none 0 0,.slice none 0 0,.slice none 0 0] 60):=⟨_,rfl⟩
     have hb0:Below wr.heap.size wr W0:=by rw[hW0];exact ah (Below.refl _ _) _
     have hown0:∀j,(Value.slice o4 pre.length c4).ownBlock=some j→j<s:=fun j e=>by rw[hs0];exact(HI.out.st.row.lt j e).2
     have H0:=Lib.hid (And.intro ((HI.out.at (s':=s) (.inl hs0)).to (Ch.of hb0) (HI.out.x.moved hb0) hpr) (show W0.heap[s]? = some (.cells #[.slice none 0 0,.int .i64 0,.slice none 0 0,.slice none 0 0,.slice none 0 0] 60 (0,0)) by rw[hW0,hs0];exact heap_alloc_new wr _))
     have HW0:=Lib.hid hW0
     have Ce:=Lib.hid hs0
     clear hb0 hW0 hs0
     go_wp2_with (with_reducible rw[←HW0.out])
     simp only[←Ce.out]
     obtain⟨q2,hq2⟩:=hU.v.at H0.out.1.x.le
     have bG:=cZ hU.v hq2 94
     rw[decide_eq_false (show ¬Pm.sg V ki ((94:UInt8).toNat:Int) from HST.out.1)] at bG
     have gM:=Lib.hid hq2
     have HT2:=Lib.hid bG
     clear hq2 bG
     refine(aH 3 ⟨#[94]⟩ _).mono ?_
     rintro x lQ ⟨b12,iQ,rfl,hbx,hbt⟩
     have aF:=Lib.hid (And.intro (H0.out.1.x.moved hbt) (And.intro hbx hbt))
     clear hbx hbt
     go_wp2_with fail
     refine(bV p ki 0 U wv tv rv ti ri 3 ⟨#[94]⟩ b12 iQ q2 _ (by decide) aF.out.1 gM.out aF.out.2.1 ?_ ?_).mono ?_
     · intro e;have h1:=aF.out.1.hh;rw[←e,aF.out.2.1.h1] at h1;cases h1
     · intro e;have h1:=aF.out.1.hh;rw[←e,aF.out.2.1.h2] at h1;cases h1
     rintro x w2 ⟨rfl,hc2,hx2⟩
     replace hc2:=(Ch.of (p:=p) aF.out.2.2).trans hc2
     rw[HT2.out] at hx2 ⊢
     rw[if_neg (by decide)] at hx2
     have l7:=(hc2.block _ (lt_of_some H0.out.2) hps).trans H0.out.2
     have hsl2:=lt_of_some l7
     have hi2:=H0.out.1.to hc2 hx2 hpr
     clear hx2 hc2
     have H3:=Lib.hid (And.intro hi2 (And.intro l7 (show KP (fun j=>s<j) w2 (fun w'=>Row w' (.slice none 0 0) ([]:List ByteArray).length (strs ([]:List ByteArray))) from fun w' _=>row_zero _ _ _ rfl)))
     clear hi2 l7
     go_wp2_with fail
     have wU:=lt_of_some H3.out.2.1
     refine(yK N p U V hU wv tv rv ti ri _ ki 0 (Nat.le_refl _) (by omega) _ H3.out.1.x).mono ?_
     rintro x w5 (hbad|⟨pe,k1,hpa,⟨n5,e5,l5,rfl,hk5⟩,aK,hx5⟩)
     · obtain ⟨c9, z9, rfl, aO, aP, aQ, aR⟩ := hbad
       have HF:=Lib.hid (PB.mk aO aP aQ (H3.out.1.c.trans aR))
       clear aO aP aQ aR
       go_wp2_with fail
       exact⟨rfl,.inl HF.out⟩
     have NC:=Lib.hid hpa
     clear hpa
     obtain⟨⟨o7,q7,rfl⟩,⟨o8,q8,rfl⟩,⟨o9,q9,rfl⟩⟩:=hk5.here.form
     have dM:=(aK.block _ wU hps).trans H3.out.2.1
     have hi5:=H3.out.1.to aK hx5 hpr
     have pR:=H3.out.2.2.to (aK.ag.sub (fun j _ hj=>by show j≠p;have h2:s<j:=hj;omega))
     have Lg:=lt_of_some dM
     obtain⟨⟨d0,d1,d2,d3,d4⟩,g0,g1,g2,g3,g4⟩:=fq dM
     obtain⟨W6,bA⟩:∃W6,W6=(((w5.setCell ⟨s,1,none⟩ (.int .i64 pe.kind)).setCell ⟨s,2,none⟩ (.slice o7 pe.names.length q7)).setCell ⟨s,3,none⟩ (.slice o8 pe.ends.length q8)).setCell ⟨s,4,none⟩ (.slice o9 pe.parts.length q9):=⟨_,rfl⟩
     have fU:=(((hi5.jF (x:=.int .i64 pe.kind) (i:=1) HX.out hRs hwr hown0).jF (x:=.slice o7 pe.names.length q7) (i:=2) HX.out hRs hwr hown0).jF (x:=.slice o8 pe.ends.length q8) (i:=3) HX.out hRs hwr hown0).jF (x:=.slice o9 pe.parts.length q9) (i:=4) HX.out hRs hwr hown0
     rw[←bA] at fU
     have pU : Ag (fun j => j ≠ s) w5 W6 := by
      rw[bA];exact((((Ag.refl _ _).setCell (fun h=>h rfl) _).setCell (fun h=>h rfl) _).setCell (fun h=>h rfl) _).setCell (fun h=>h rfl) _
     have dZ:W6.heap[s]? = some (.cells #[.slice none 0 0,.int .i64 pe.kind,.slice o7 pe.names.length q7,.slice o8 pe.ends.length q8,.slice o9 pe.parts.length q9] 60 (0,0)):=by rw[bA];simp[World.setCell,Array.getElem?_modify,dM]
     have eB : KP (fun j => (r < j ∧ j ≠ s) ∧ (Value.slice o4 pre.length c4).ownBlock ≠ some j) W6 (fun w' => Row w' (.slice none 0 0) ([] : List ByteArray).length (strs ([] : List ByteArray)) ∧ bU w' pe (.slice o7 pe.names.length q7) (.slice o8 pe.ends.length q8) (.slice o9 pe.parts.length q9)) := by
      intro w' hag
      have hag':Ag (fun j=>s<j) w5 w':=(pU.sub (fun j _ hj=>by show j≠s;have h2:s<j:=hj;omega)).trans (hag.sub (fun j _ hj=>⟨⟨by have h2:s<j:=hj;omega,by have h2:s<j:=hj;omega⟩,fun e=>by have h2:s<j:=hj;have h3:=hown0 j e;omega⟩))
      exact⟨pR w' hag',hk5 w' (hag'.sub (fun j _ hj=>by show s<j;have h2:w2.heap.size≤j:=hj;omega))⟩
     have H6:=Lib.hid (And.intro fU (And.intro dZ eB))
     obtain⟨⟨a0,a1,a2⟩,b0,b1,b2⟩:=ay fU.hr
     obtain⟨⟨p0,p1,p2,p3,p4⟩,f0,f1,f2,f3,f4⟩:=fq dZ
     have Lh:=lt_of_some dZ
     have kH:=Lib.hid bA
     have Li:=hx5.le
     clear hi5 fU dM dZ eB pR hk5 aK hx5 pU bA
     have hlt1:ki<k1:=(jf p U V hU.v wv tv rv ti ri NC.out).1
     go_wp2_with (first|(with_reducible rw[←kH.out])|(at_builtin;refine aW _ rfl _ _ 61 rfl (r+1) 60 ii _ 5 104 Tryz.underlying61 hi hz0 hz1 hz2 rfl (by decide) (.slice o4 pre.length c4) pre.length (pre.flatMap five) rfl (by repeat (first|exact H6.out.1.st.row|refine World.ownsRow.alloc ?_ _|refine bX ?_)) _ 1 _ rfl (by exact bE rfl (by simp)) rfl (by simp[Value.oneCell']) (by unfold maxLen;omega) (by omega) (by simp;omega) ?_;intro v9 w9 aI fu dP bF;obtain⟨o6,c6,rfl⟩:=au aI;have gL:=(bF.block r (by omega)).trans ((ah (Below.refl W6.heap.size W6) _).block r (lt_of_some H6.out.1.hr) |>.trans H6.out.1.hr);obtain⟨⟨t0,t1,t2⟩,y0,y1,y2⟩:=ay gL))
     have hpush:=RI.push (q:=((⟨([]:List ByteArray),pe⟩:ST),.slice none 0 0,.slice o7 pe.names.length q7,.slice o8 pe.ends.length q8,.slice o9 pe.parts.length q9)) HX.out H6.out.1 hpr hwr (ah (Below.refl _ _) _) aI fu dP bF H6.out.2.2
     have jP:=Lib.hid (hpush.at (s':=r) (.inr rfl))
     clear hpush aI fu dP bF gL t0 t1 t2 y0 y1 y2 a0 a1 a2 b0 b1 b2 p0 p1 p2 p3 p4 f0 f1 f2 f3 f4
     go_roundg (U.length-k1)
     case measure=>omega
     case rel=>exact⟨pre++[((⟨([]:List ByteArray),pe⟩:ST),.slice none 0 0,.slice o7 pe.names.length q7,.slice o8 pe.ends.length q8,.slice o9 pe.parts.length q9)],k1,o6,c6,false,by omega,by omega,rfl,by rw[List.length_append];exact jP.out,by rw[List.length_append];show pre.length+1≤k1;omega,by intro q hq;rcases List.mem_append.1 hq with h|h;(exact Ee.out q h);(rw[List.mem_singleton.1 h];exact⟨Nat.zero_le _,Ed (hU.Qa) NC.out⟩)⟩
   · have HST := Lib.hid (And.intro ko True.intro)
     clear ko
     obtain⟨s,hs0⟩:∃s,s=wr.heap.size:=⟨_,rfl⟩
     have hRs:r<s:=by have:=lt_of_some HI.out.hr;omega
     have hps:s≠p:=by omega
     obtain⟨W0,hW0⟩:∃W0,W0=wr.alloc (.cells #[.slice none 0 0,.int .i64 0,.slice none 0 0,.slice none 0 0,.slice none 0 0] 60):=⟨_,rfl⟩
     have hb0:Below wr.heap.size wr W0:=by rw[hW0];exact ah (Below.refl _ _) _
     have hown0:∀j,(Value.slice o4 pre.length c4).ownBlock=some j→j<s:=fun j e=>by rw[hs0];exact(HI.out.st.row.lt j e).2
     have H0:=Lib.hid (And.intro ((HI.out.at (s':=s) (.inl hs0)).to (Ch.of hb0) (HI.out.x.moved hb0) hpr) (show W0.heap[s]? = some (.cells #[.slice none 0 0,.int .i64 0,.slice none 0 0,.slice none 0 0,.slice none 0 0] 60 (0,0)) by rw[hW0,hs0];exact heap_alloc_new wr _))
     have HW0:=Lib.hid hW0
     have Ce:=Lib.hid hs0
     clear hb0 hW0 hs0
     go_wp2_with (with_reducible rw[←HW0.out])
     simp only[←Ce.out]
     obtain⟨q2,hq2⟩:=hU.v.at H0.out.1.x.le
     have bG:=cZ hU.v hq2 94
     rw[decide_eq_true (show Pm.sg V ki ((94:UInt8).toNat:Int) from HST.out.1)] at bG
     have gM:=Lib.hid hq2
     have HT2:=Lib.hid bG
     clear hq2 bG
     refine(aH 3 ⟨#[94]⟩ _).mono ?_
     rintro x lQ ⟨b12,iQ,rfl,hbx,hbt⟩
     have aF:=Lib.hid (And.intro (H0.out.1.x.moved hbt) (And.intro hbx hbt))
     clear hbx hbt
     go_wp2_with fail
     refine(bV p ki 0 U wv tv rv ti ri 3 ⟨#[94]⟩ b12 iQ q2 _ (by decide) aF.out.1 gM.out aF.out.2.1 ?_ ?_).mono ?_
     · intro e;have h1:=aF.out.1.hh;rw[←e,aF.out.2.1.h1] at h1;cases h1
     · intro e;have h1:=aF.out.1.hh;rw[←e,aF.out.2.1.h2] at h1;cases h1
     rintro x w2 ⟨rfl,hc2,hx2⟩
     replace hc2:=(Ch.of (p:=p) aF.out.2.2).trans hc2
     rw[HT2.out] at hx2 ⊢
     rw[if_pos rfl] at hx2
     have l7:=(hc2.block _ (lt_of_some H0.out.2) hps).trans H0.out.2
     have hsl2:=lt_of_some l7
     have hi2:=H0.out.1.to hc2 hx2 hpr
     clear hx2 hc2
     have H2:=Lib.hid (And.intro hi2 l7)
     clear hi2 l7
     go_wp2_with fail
     refine(zO N p (ki+1) 0 U V hU wv tv rv ti ri _ H2.out.1.x).mono ?_
     rintro x w3 (hbad|⟨cs,v3,jc,rfl,⟨-,hnm,-⟩,ho3,hc3,hx3⟩)
     · obtain ⟨c9, z9, rfl, aO, aP, aQ, aR⟩ := hbad
       have HF:=Lib.hid (PB.mk aO aP aQ (H2.out.1.c.trans aR))
       clear aO aP aQ aR
       go_wp2_with fail
       exact⟨rfl,.inl HF.out⟩
     have Hf:=Lib.hid hnm
     clear hnm
     obtain⟨o3,q3,rfl⟩:=au ho3
     have hs3:=(hc3.block _ hsl2 hps).trans H2.out.2
     have hi3:=H2.out.1.to hc3 hx3 hpr
     obtain⟨⟨d0,d1,d2,d3,d4⟩,g0,g1,g2,g3,g4⟩:=fq hs3
     obtain⟨W3,hW3⟩:∃W3,W3=w3.setCell ⟨s,0,none⟩ (.slice o3 cs.length q3):=⟨_,rfl⟩
     have hkc : KP (fun j => s < j) W3 (fun w' => Row w' (.slice o3 cs.length q3) cs.length (strs cs)) := by
      rw[hW3];exact fun w' hag=>Row.owned (dU ho3 (((Ag.refl (fun j=>s<j) w3).setCell (fun h=>Nat.lt_irrefl _ h) _).trans hag) (fun j e=>by have:=(ho3.lt j e).1;show s<j;omega))
     have ug:=hi3.jF (x:=.slice o3 cs.length q3) (i:=0) HX.out hRs hwr hown0
     have hh3:W3.heap[s]? = some (.cells #[.slice o3 cs.length q3,.int .i64 0,.slice none 0 0,.slice none 0 0,.slice none 0 0] 60 (0,0)):=by rw[hW3];simp[World.setCell,Array.getElem?_modify,hs3]
     rw[←hW3] at ug
     have H3:=Lib.hid (And.intro ug (And.intro hh3 hkc))
     have HW3:=Lib.hid hW3
     clear hi3 ug hh3 hkc hc3 hx3 ho3 hW3
     go_wp2_with (with_reducible rw[←HW3.out])
     clear d0 d1 d2 d3 d4 g0 g1 g2 g3 g4 hs3
     have wU:=lt_of_some H3.out.2.1
     refine(yK N p U V hU wv tv rv ti ri _ (jc+1) 0 (Nat.le_refl _) (by omega) _ H3.out.1.x).mono ?_
     rintro x w5 (hbad|⟨pe,k1,hpa,⟨n5,e5,l5,rfl,hk5⟩,aK,hx5⟩)
     · obtain ⟨c9, z9, rfl, aO, aP, aQ, aR⟩ := hbad
       have HF:=Lib.hid (PB.mk aO aP aQ (H3.out.1.c.trans aR))
       clear aO aP aQ aR
       go_wp2_with fail
       exact⟨rfl,.inl HF.out⟩
     have NC:=Lib.hid hpa
     clear hpa
     obtain⟨⟨o7,q7,rfl⟩,⟨o8,q8,rfl⟩,⟨o9,q9,rfl⟩⟩:=hk5.here.form
     have dM:=(aK.block _ wU hps).trans H3.out.2.1
     have hi5:=H3.out.1.to aK hx5 hpr
     have pR:=H3.out.2.2.to (aK.ag.sub (fun j _ hj=>by show j≠p;have h2:s<j:=hj;omega))
     have Lg:=lt_of_some dM
     obtain⟨⟨d0,d1,d2,d3,d4⟩,g0,g1,g2,g3,g4⟩:=fq dM
     obtain⟨W6,bA⟩:∃W6,W6=(((w5.setCell ⟨s,1,none⟩ (.int .i64 pe.kind)).setCell ⟨s,2,none⟩ (.slice o7 pe.names.length q7)).setCell ⟨s,3,none⟩ (.slice o8 pe.ends.length q8)).setCell ⟨s,4,none⟩ (.slice o9 pe.parts.length q9):=⟨_,rfl⟩
     have fU:=(((hi5.jF (x:=.int .i64 pe.kind) (i:=1) HX.out hRs hwr hown0).jF (x:=.slice o7 pe.names.length q7) (i:=2) HX.out hRs hwr hown0).jF (x:=.slice o8 pe.ends.length q8) (i:=3) HX.out hRs hwr hown0).jF (x:=.slice o9 pe.parts.length q9) (i:=4) HX.out hRs hwr hown0
     rw[←bA] at fU
     have pU : Ag (fun j => j ≠ s) w5 W6 := by
      rw[bA];exact((((Ag.refl _ _).setCell (fun h=>h rfl) _).setCell (fun h=>h rfl) _).setCell (fun h=>h rfl) _).setCell (fun h=>h rfl) _
     have dZ:W6.heap[s]? = some (.cells #[.slice o3 cs.length q3,.int .i64 pe.kind,.slice o7 pe.names.length q7,.slice o8 pe.ends.length q8,.slice o9 pe.parts.length q9] 60 (0,0)):=by rw[bA];simp[World.setCell,Array.getElem?_modify,dM]
     have eB : KP (fun j => (r < j ∧ j ≠ s) ∧ (Value.slice o4 pre.length c4).ownBlock ≠ some j) W6 (fun w' => Row w' (.slice o3 cs.length q3) cs.length (strs cs) ∧ bU w' pe (.slice o7 pe.names.length q7) (.slice o8 pe.ends.length q8) (.slice o9 pe.parts.length q9)) := by
      intro w' hag
      have hag':Ag (fun j=>s<j) w5 w':=(pU.sub (fun j _ hj=>by show j≠s;have h2:s<j:=hj;omega)).trans (hag.sub (fun j _ hj=>⟨⟨by have h2:s<j:=hj;omega,by have h2:s<j:=hj;omega⟩,fun e=>by have h2:s<j:=hj;have h3:=hown0 j e;omega⟩))
      exact⟨pR w' hag',hk5 w' (hag'.sub (fun j _ hj=>by show s<j;have h2:W3.heap.size≤j:=hj;omega))⟩
     have H6:=Lib.hid (And.intro fU (And.intro dZ eB))
     obtain⟨⟨a0,a1,a2⟩,b0,b1,b2⟩:=ay fU.hr
     obtain⟨⟨p0,p1,p2,p3,p4⟩,f0,f1,f2,f3,f4⟩:=fq dZ
     have Lh:=lt_of_some dZ
     have kH:=Lib.hid bA
     have Li:=hx5.le
     clear hi5 fU dM dZ eB pR hk5 aK hx5 pU bA
     have hlt1:ki<k1:=by have h1:=(jf p U V hU.v wv tv rv ti ri NC.out).1;have h2:=iR Hf.out;omega
     go_wp2_with (first|(with_reducible rw[←kH.out])|(at_builtin;refine aW _ rfl _ _ 61 rfl (r+1) 60 ii _ 5 104 Tryz.underlying61 hi hz0 hz1 hz2 rfl (by decide) (.slice o4 pre.length c4) pre.length (pre.flatMap five) rfl (by repeat (first|exact H6.out.1.st.row|refine World.ownsRow.alloc ?_ _|refine bX ?_)) _ 1 _ rfl (by exact bE rfl (by simp)) rfl (by simp[Value.oneCell']) (by unfold maxLen;omega) (by omega) (by simp;omega) ?_;intro v9 w9 aI fu dP bF;obtain⟨o6,c6,rfl⟩:=au aI;have gL:=(bF.block r (by omega)).trans ((ah (Below.refl W6.heap.size W6) _).block r (lt_of_some H6.out.1.hr) |>.trans H6.out.1.hr);obtain⟨⟨t0,t1,t2⟩,y0,y1,y2⟩:=ay gL))
     have hpush:=RI.push (q:=((⟨cs,pe⟩:ST),.slice o3 cs.length q3,.slice o7 pe.names.length q7,.slice o8 pe.ends.length q8,.slice o9 pe.parts.length q9)) HX.out H6.out.1 hpr hwr (ah (Below.refl _ _) _) aI fu dP bF H6.out.2.2
     have jP:=Lib.hid (hpush.at (s':=r) (.inr rfl))
     clear hpush aI fu dP bF gL t0 t1 t2 y0 y1 y2 a0 a1 a2 b0 b1 b2 p0 p1 p2 p3 p4 f0 f1 f2 f3 f4
     go_roundg (U.length-k1)
     case measure=>omega
     case rel=>exact⟨pre++[((⟨cs,pe⟩:ST),.slice o3 cs.length q3,.slice o7 pe.names.length q7,.slice o8 pe.ends.length q8,.slice o9 pe.parts.length q9)],k1,o6,c6,false,by omega,by omega,rfl,by rw[List.length_append];exact jP.out,by rw[List.length_append];show pre.length+1≤k1;omega,by intro q hq;rcases List.mem_append.1 hq with h|h;(exact Ee.out q h);(rw[List.mem_singleton.1 h];exact⟨zn hU.Qa Hf.out,Ed (hU.Qa) NC.out⟩)⟩)
theorem Lj (N p k k0 d0:Nat) (U:List Uw) (V:Pm.Ws) (hU:lS N U V) (hN:N≤100000) (wv tv rv ti ri:Value) (dz dA dB dD:Value) (aD:List (TK×Value×Value)) (aG:List (RU×Value)) (lt lr:List Int) (w0 w:World) (h0:PI w0 p U k0 d0 wv dz dA dB dD) (aC:LI w0 w p U (k+1) wv tv rv ti ri aD aG lt lr)
 (hre:∀(k:Nat) (q:Uw),U[k]? = some q→q.1=4→∀w,Calls Tryz.prog 14 #[.string q.2.1] w fun x w'=>(∃(c:Int) (z:Nat),oM c z w x w'∧c≠0∧c≠2∧q.2.2+1+z≤N)∨∃e:RE,e.Fit∧lZ e w x w') :
 Calls Tryz.prog 56 #[.pointer (some ⟨p,0,none⟩)] w fun x w'=>PB N p w x w'∨(x=.returned (.tuple #[])∧∃(t:TK) (tv' a b:Value),(t.name.size≤1000∧t.re.Fit)∧LI w0 w' p U (k+6) wv tv' rv ti ri (aD++[(t,a,b)]) aG lt lr):=by
 have h:=aC.x
 have dw:=h.lt
 have hp0:=h0.lt
 have sJ:=aC.c.size
 have Kc:=Lib.hid (au aC.tk.row)
 have aU:=Lib.hid aC
 have HX0:=Lib.hid h0
 have HX:=Lib.hid h
 obtain⟨ir,uX,hr1,hr2,hr3⟩:=yL
 have oN:=Lib.hid hre
 clear aC h0 h hre
 go_enter Tryz.func56,Tryz.ntmps56
 go_wp2_with fail
 refine(yM N p (k+1) 0 U V hU wv tv rv ti ri _ HX.out).mono ?_
 rintro x w1 (hbad|⟨nm,rfl,⟨hvn,hnb⟩,hc1,hx1⟩)
 · obtain ⟨c9, z9, rfl, aO, aP, aQ, aR⟩ := hbad
   have HF:=Lib.hid (PB.mk aO aP aQ (aR))
   clear aO aP aQ aR
   go_wp2_with fail
   exact⟨rfl,.inl HF.out⟩
 have Hf:=Lib.hid (Cg hnb)
 clear hvn hnb
 obtain⟨tb,htb⟩:∃tb,tb=w1.heap.size:=⟨_,rfl⟩
 have hs1:=hc1.size
 have hwt:w.heap.size≤tb:=by omega
 have htp:tb≠p:=by omega
 obtain⟨W1,hW1⟩:∃W1,W1=w1.alloc (.cells #[.string nm,.int .i64 0,.int .i64 0,.int .i64 0,.slice none 0 0,.slice none 0 0] 54):=⟨_,rfl⟩
 have hti:TI w W1 p tb U (k+2) wv tv rv ti ri (.string nm) (.int .i64 0) (.int .i64 0) (.int .i64 0) (.slice none 0 0) (.slice none 0 0):=by
  have hb:=ah (Below.refl w1.heap.size w1) (.cells #[.string nm,.int .i64 0,.int .i64 0,.int .i64 0,.slice none 0 0,.slice none 0 0] 54)
  rw[hW1]
  exact⟨hx1.moved hb,hc1.trans (Ch.of hb),by rw[htb];exact heap_alloc_new w1 _⟩
 have H1:=Lib.hid hti
 have HW1:=Lib.hid hW1
 have ND:=Lib.hid htb
 clear hti hW1 htb hc1 hx1
 go_wp2_with (with_reducible rw[←HW1.out])
 simp only[←ND.out]
 rcases(show V[k+2]? = some (1,sb ⟨#[99,97,108,108]⟩)∨(¬V[k+2]? = some (1,sb ⟨#[99,97,108,108]⟩)∧V[k+2]? = some (1,sb ⟨#[114,101,116]⟩))∨(¬V[k+2]? = some (1,sb ⟨#[99,97,108,108]⟩)∧¬V[k+2]? = some (1,sb ⟨#[114,101,116]⟩)) from(Classical.em _).elim .inl (fun h=>(Classical.em _).elim (fun h2=>.inr (.inl ⟨h,h2⟩)) (fun h2=>.inr (.inr ⟨h,h2⟩)))) with hcall|⟨hcall,hret⟩|⟨hcall,hret⟩
 case' inl=>
  obtain⟨kd,hkd⟩:∃kd:Int,kd=1:=⟨_,rfl⟩
  have HK:=Lib.hid (And.intro hcall True.intro)
  clear hcall
  obtain⟨q2,hq2⟩:=hU.v.at H1.out.x.le
  have bG:=iV hU.v hq2 (kk:=1) (by decide) ⟨#[99,97,108,108]⟩
  rw[decide_eq_true HK.out.1] at bG
  have gM:=Lib.hid hq2
  have HT2:=Lib.hid bG
  clear hq2 bG
  refine(aH 1 ⟨#[99,97,108,108]⟩ _).mono ?_
  rintro x lQ ⟨b12,iQ,rfl,hbx,hbt⟩
  have aF:=Lib.hid (And.intro (H1.out.x.moved hbt) (And.intro hbx hbt))
  clear hbx hbt
  go_wp2_with fail
  refine(bV p (k+2) 0 U wv tv rv ti ri 1 ⟨#[99,97,108,108]⟩ b12 iQ q2 _ (by decide) aF.out.1 gM.out aF.out.2.1 ?_ ?_).mono ?_
  · intro e;have h1:=aF.out.1.hh;rw[←e,aF.out.2.1.h1] at h1;cases h1
  · intro e;have h1:=aF.out.1.hh;rw[←e,aF.out.2.1.h2] at h1;cases h1
  rintro x w2 ⟨rfl,hc2,hx2⟩
  replace hc2:=(Ch.of (p:=p) aF.out.2.2).trans hc2
  rw[HT2.out] at hx2 ⊢
  rw[if_pos rfl] at hx2
  have hi2:=H1.out.to hc2 hx2 htp
  clear hx2 hc2
  obtain⟨⟨d0,d1,d2,d3,d4,d5⟩,g0,g1,g2,g3,g4,g5⟩:=dH hi2.ht
  obtain⟨W4,eT⟩:∃W4,W4=w2.setCell ⟨tb,1,none⟩ (.int .i64 1):=⟨_,rfl⟩
  have hi4:=hi2.set1 HX.out (.int .i64 1) hwt
  rw[←eT] at hi4
  have H4:=Lib.hid hi4
  have Hg:=Lib.hid eT
  clear hi2 hi4 eT
  go_wp2_with (with_reducible rw[←Hg.out])
  clear d0 d1 d2 d3 d4 d5 g0 g1 g2 g3 g4 g5
 case' inr.inl=>
  obtain⟨kd,hkd⟩:∃kd:Int,kd=2:=⟨_,rfl⟩
  have HK:=Lib.hid (And.intro hcall hret)
  clear hcall hret
  obtain⟨q2,hq2⟩:=hU.v.at H1.out.x.le
  have bG:=iV hU.v hq2 (kk:=1) (by decide) ⟨#[99,97,108,108]⟩
  rw[decide_eq_false HK.out.1] at bG
  have gM:=Lib.hid hq2
  have HT2:=Lib.hid bG
  clear hq2 bG
  refine(aH 1 ⟨#[99,97,108,108]⟩ _).mono ?_
  rintro x lQ ⟨b12,iQ,rfl,hbx,hbt⟩
  have aF:=Lib.hid (And.intro (H1.out.x.moved hbt) (And.intro hbx hbt))
  clear hbx hbt
  go_wp2_with fail
  refine(bV p (k+2) 0 U wv tv rv ti ri 1 ⟨#[99,97,108,108]⟩ b12 iQ q2 _ (by decide) aF.out.1 gM.out aF.out.2.1 ?_ ?_).mono ?_
  · intro e;have h1:=aF.out.1.hh;rw[←e,aF.out.2.1.h1] at h1;cases h1
  · intro e;have h1:=aF.out.1.hh;rw[←e,aF.out.2.1.h2] at h1;cases h1
  rintro x w2 ⟨rfl,hc2,hx2⟩
  replace hc2:=(Ch.of (p:=p) aF.out.2.2).trans hc2
  rw[HT2.out] at hx2 ⊢
  rw[if_neg (by decide)] at hx2
  have hi2:=H1.out.to hc2 hx2 htp
  clear hx2 hc2
  have H2:=Lib.hid hi2
  clear hi2
  go_wp2_with fail
  obtain⟨q3,hq3⟩:=hU.v.at H2.out.x.le
  have gJ:=iV hU.v hq3 (kk:=1) (by decide) ⟨#[114,101,116]⟩
  rw[decide_eq_true HK.out.2] at gJ
  have jJ:=Lib.hid hq3
  have HT3:=Lib.hid gJ
  clear hq3 gJ
  refine(aH 1 ⟨#[114,101,116]⟩ _).mono ?_
  rintro x vg ⟨b13,kD,rfl,hbx,hbt⟩
  have bL:=Lib.hid (And.intro (H2.out.x.moved hbt) (And.intro hbx hbt))
  clear hbx hbt
  go_wp2_with fail
  refine(bV p (k+2) 0 U wv tv rv ti ri 1 ⟨#[114,101,116]⟩ b13 kD q3 _ (by decide) bL.out.1 jJ.out bL.out.2.1 ?_ ?_).mono ?_
  · intro e;have h1:=bL.out.1.hh;rw[←e,bL.out.2.1.h1] at h1;cases h1
  · intro e;have h1:=bL.out.1.hh;rw[←e,bL.out.2.1.h2] at h1;cases h1
  rintro x w3 ⟨rfl,hc3,hx3⟩
  replace hc3:=(Ch.of (p:=p) bL.out.2.2).trans hc3
  rw[HT3.out] at hx3 ⊢
  rw[if_pos rfl] at hx3
  have hi3:=H2.out.to hc3 hx3 htp
  clear hx3 hc3
  obtain⟨⟨d0,d1,d2,d3,d4,d5⟩,g0,g1,g2,g3,g4,g5⟩:=dH hi3.ht
  obtain⟨W4,eT⟩:∃W4,W4=w3.setCell ⟨tb,1,none⟩ (.int .i64 2):=⟨_,rfl⟩
  have hi4:=hi3.set1 HX.out (.int .i64 2) hwt
  rw[←eT] at hi4
  have H4:=Lib.hid hi4
  have Hg:=Lib.hid eT
  clear hi3 hi4 eT
  go_wp2_with (with_reducible rw[←Hg.out])
  clear d0 d1 d2 d3 d4 d5 g0 g1 g2 g3 g4 g5
 case' inr.inr=>
  obtain⟨kd,hkd⟩:∃kd:Int,kd=0:=⟨_,rfl⟩
  have HK:=Lib.hid (And.intro hcall hret)
  clear hcall hret
  obtain⟨q2,hq2⟩:=hU.v.at H1.out.x.le
  have bG:=iV hU.v hq2 (kk:=1) (by decide) ⟨#[99,97,108,108]⟩
  rw[decide_eq_false HK.out.1] at bG
  have gM:=Lib.hid hq2
  have HT2:=Lib.hid bG
  clear hq2 bG
  refine(aH 1 ⟨#[99,97,108,108]⟩ _).mono ?_
  rintro x lQ ⟨b12,iQ,rfl,hbx,hbt⟩
  have aF:=Lib.hid (And.intro (H1.out.x.moved hbt) (And.intro hbx hbt))
  clear hbx hbt
  go_wp2_with fail
  refine(bV p (k+2) 0 U wv tv rv ti ri 1 ⟨#[99,97,108,108]⟩ b12 iQ q2 _ (by decide) aF.out.1 gM.out aF.out.2.1 ?_ ?_).mono ?_
  · intro e;have h1:=aF.out.1.hh;rw[←e,aF.out.2.1.h1] at h1;cases h1
  · intro e;have h1:=aF.out.1.hh;rw[←e,aF.out.2.1.h2] at h1;cases h1
  rintro x w2 ⟨rfl,hc2,hx2⟩
  replace hc2:=(Ch.of (p:=p) aF.out.2.2).trans hc2
  rw[HT2.out] at hx2 ⊢
  rw[if_neg (by decide)] at hx2
  have hi2:=H1.out.to hc2 hx2 htp
  clear hx2 hc2
  have H2:=Lib.hid hi2
  clear hi2
  go_wp2_with fail
  obtain⟨q3,hq3⟩:=hU.v.at H2.out.x.le
  have gJ:=iV hU.v hq3 (kk:=1) (by decide) ⟨#[114,101,116]⟩
  rw[decide_eq_false HK.out.2] at gJ
  have jJ:=Lib.hid hq3
  have HT3:=Lib.hid gJ
  clear hq3 gJ
  refine(aH 1 ⟨#[114,101,116]⟩ _).mono ?_
  rintro x vg ⟨b13,kD,rfl,hbx,hbt⟩
  have bL:=Lib.hid (And.intro (H2.out.x.moved hbt) (And.intro hbx hbt))
  clear hbx hbt
  go_wp2_with fail
  refine(bV p (k+2) 0 U wv tv rv ti ri 1 ⟨#[114,101,116]⟩ b13 kD q3 _ (by decide) bL.out.1 jJ.out bL.out.2.1 ?_ ?_).mono ?_
  · intro e;have h1:=bL.out.1.hh;rw[←e,bL.out.2.1.h1] at h1;cases h1
  · intro e;have h1:=bL.out.1.hh;rw[←e,bL.out.2.1.h2] at h1;cases h1
  rintro x w3 ⟨rfl,hc3,hx3⟩
  replace hc3:=(Ch.of (p:=p) bL.out.2.2).trans hc3
  rw[HT3.out] at hx3 ⊢
  rw[if_neg (by decide)] at hx3
  have hi3:=H2.out.to hc3 hx3 htp
  clear hx3 hc3
  have H3:=Lib.hid hi3
  obtain⟨q4,hq4⟩:=hU.v.at hi3.x.le
  have zB:=hU.pl _ _ hq4
  have NG:=Lib.hid hq4
  clear hi3 hq4
  go_wp2_with fail
  refine(aH 1 ⟨#[105,110,116]⟩ _).mono ?_
  rintro x Rz ⟨b14,Ci,rfl,hbx,hbt⟩
  have gI:=Lib.hid (And.intro (H3.out.x.moved hbt) (And.intro hbx hbt))
  clear hbx hbt
  go_wp2_with fail
  refine(jg N p (k+2) 0 U wv tv rv ti ri 1 ⟨#[105,110,116]⟩ b14 Ci q4 _ (by decide) gI.out.1 NG.out gI.out.2.1 ?_ ?_ zB).mono ?_
  · intro e;have h1:=gI.out.1.hh;rw[←e,gI.out.2.1.h1] at h1;cases h1
  · intro e;have h1:=gI.out.1.hh;rw[←e,gI.out.2.1.h2] at h1;cases h1
  rintro x w4 (hbad|⟨-,rfl,hc4,hx4⟩)
  · obtain ⟨c9, z9, rfl, aO, aP, aQ, aR⟩ := hbad
    have HF:=Lib.hid (PB.mk aO aP aQ (H3.out.c.trans ((Ch.of gI.out.2.2).trans aR)))
    clear aO aP aQ aR
    go_wp2_with fail
    exact⟨rfl,.inl HF.out⟩
  replace hc4:=(Ch.of (p:=p) gI.out.2.2).trans hc4
  have H4:=Lib.hid (H3.out.to hc4 hx4 htp)
  clear hc4 hx4
  go_wp2_with fail
 all_goals (
  refine(Cc N p (k+3) 0 U V hU wv tv rv ti ri _ H4.out.x).mono ?_
  rintro x w5 (hbad|⟨cls,rfl,aK,hx5⟩)
  · obtain ⟨c9, z9, rfl, aO, aP, aQ, aR⟩ := hbad
    have HF:=Lib.hid (PB.mk aO aP aQ (H4.out.c.trans aR))
    clear aO aP aQ aR
    go_wp2_with fail
    exact⟨rfl,.inl HF.out⟩
  have hi5:=H4.out.to aK hx5 htp
  obtain⟨⟨d0,d1,d2,d3,d4,d5⟩,g0,g1,g2,g3,g4,g5⟩:=dH hi5.ht
  obtain⟨W5,bT⟩:∃W5,W5=w5.setCell ⟨tb,2,none⟩ (.int .i64 cls):=⟨_,rfl⟩
  have jh:=hi5.set2 HX.out (.int .i64 cls) hwt
  rw[←bT] at jh
  have H5:=Lib.hid jh
  have Cj:=Lib.hid bT
  obtain⟨q6,eB⟩:=hU.v.at jh.x.le
  have Hl:=hU.pl _ _ eB
  have nN:=Lib.hid eB
  clear hi5 jh aK hx5 bT eB
  go_wp2_with (with_reducible rw[←Cj.out])
  clear d0 d1 d2 d3 d4 d5 g0 g1 g2 g3 g4 g5
  refine(aH 3 ⟨#[61]⟩ _).mono ?_
  rintro x RA ⟨b16,Ck,rfl,hbx,hbt⟩
  have gN:=Lib.hid (And.intro (H5.out.x.moved hbt) (And.intro hbx hbt))
  clear hbx hbt
  go_wp2_with fail
  refine(jg N p (k+4) 0 U wv tv rv ti ri 3 ⟨#[61]⟩ b16 Ck q6 _ (by decide) gN.out.1 nN.out gN.out.2.1 ?_ ?_ Hl).mono ?_
  · intro e;have h1:=gN.out.1.hh;rw[←e,gN.out.2.1.h1] at h1;cases h1
  · intro e;have h1:=gN.out.1.hh;rw[←e,gN.out.2.1.h2] at h1;cases h1
  rintro x w6 (hbad|⟨-,rfl,hc6,hx6⟩)
  · obtain ⟨c9, z9, rfl, aO, aP, aQ, aR⟩ := hbad
    have HF:=Lib.hid (PB.mk aO aP aQ (H5.out.c.trans ((Ch.of gN.out.2.2).trans aR)))
    clear aO aP aQ aR
    go_wp2_with fail
    exact⟨rfl,.inl HF.out⟩
  replace hc6:=(Ch.of (p:=p) gN.out.2.2).trans hc6
  have fU:=H5.out.to hc6 hx6 htp
  obtain⟨⟨ek,eb,en⟩,uh⟩:=hU.v.at fU.x.le
  have YB:=hU.pl _ _ uh
  dsimp only at YB
  have H6:=Lib.hid fU
  have zP:=Lib.hid uh
  clear fU hc6 hx6 uh
  go_wp2_with fail
  refine(dO 4 _).mono ?_
  rintro x RB ⟨b17,rfl,hbx,hbt⟩
  have oI:=Lib.hid (And.intro (H6.out.x.moved hbt) (And.intro hbx hbt))
  clear hbx hbt
  go_wp2_with fail
  refine(pV N p (k+5) 0 U wv tv rv ti ri 4 b17 (ek,eb,en) _ (by decide) oI.out.1 zP.out oI.out.2.1 YB).mono ?_
  rintro x w7 (hbad|⟨jG,rfl,eF,hx7⟩)
  · obtain ⟨c9, z9, rfl, aO, aP, aQ, aR⟩ := hbad
    have HF:=Lib.hid (PB.mk aO aP aQ (H6.out.c.trans ((Ch.of oI.out.2.2).trans aR)))
    clear aO aP aQ aR
    go_wp2_with fail
    exact⟨rfl,.inl HF.out⟩
  obtain rfl:ek=4:=by unfold iU at jG;simpa using jG
  clear jG
  replace eF:=(Ch.of (p:=p) oI.out.2.2).trans eF
  have hbel:=ah (Below.refl w7.heap.size w7) (.cells #[.int .i64 4,.string eb,.int .i64 en] 72)
  have lY:=(H6.out.to eF hx7 htp).to (Ch.of hbel) ((H6.out.to eF hx7 htp).x.moved hbel) htp
  have hge:=heap_alloc_new w7 (.cells #[.int .i64 4,.string eb,.int .i64 en] 72)
  obtain⟨W7,lH⟩:∃W7,W7=w7.alloc (.cells #[.int .i64 4,.string eb,.int .i64 en] 72):=⟨_,rfl⟩
  rw[←lH] at lY hge
  obtain⟨⟨u0,u1,u2⟩,m0,m1,m2⟩:=ay hge
  have Ll:tb<W7.heap.size:=lt_of_some lY.ht
  have H7:=Lib.hid lY
  have Wy:=Lib.hid hge
  have Cm:=Lib.hid lH
  clear hbel lY hge eF hx7 lH
  go_wp2_with (with_reducible rw[←Cm.out])
  refine(oN.out _ _ zP.out rfl _).mono ?_
  rintro x w8 (⟨c,z,⟨rfl,gF⟩,hc0,hc2,hzz⟩|⟨e,hfit,Wz,WA,rfl,qh,gF⟩)
  · dsimp only at hzz
    have e5:(c == 0)=false:=by simpa using hc0
    have e6:(c != 0)=true:=by simpa using hc0
    have EQ:=Lib.hid (show(en:Int)+1+(z:Int)=((en+1+z:Nat):Int) by omega)
    have hn0:(0:Int)≤(en:Int):=by omega
    have hn9:(en:Int)≤1000000:=by omega
    have hz0:(0:Int)≤(z:Int):=by omega
    have xP:(z:Int)≤1000000:=by omega
    have nO:=H7.out.to (Ch.of gF) (H7.out.x.moved gF) htp
    have HF:=Lib.hid (PB.mk hc0 hc2 hzz nO.c)
    have Ho:=aB gF Wy.out
    obtain⟨⟨v0,v1,v2⟩,y0,y1,y2⟩:=ay Ho
    have Zq:w7.heap.size<w8.heap.size:=lt_of_some Ho
    have Zr:¬w7.heap.size=w8.heap.size:=by omega
    clear nO gF Ho u0 u1 u2 m0 m1 m2 hc0 hc2 hzz
    go_wp2_with fail
    refine⟨rfl,.inl ?_⟩
    obtain⟨c8,z8,x1,x2,x3,x4,x5⟩:=HF.out
    refine⟨c8,z8,?_,x2,x3,x4,x5.trans (Ch.of (ah (Below.refl _ _) _))⟩
    rw[←x1,←EQ.out]
  have Zt:=Lib.hid hfit
  clear hfit
  obtain⟨⟨o8,q8,rfl⟩,⟨o9,q9,rfl⟩⟩:=qh.here.form
  have nO:=H7.out.to (Ch.of gF) (H7.out.x.moved gF) htp
  have hbr:=ah (Below.refl w8.heap.size w8) (.cells #[.int .i64 e.kind,.slice o8 e.set.length q8,.slice o9 e.parts.length q9] 35)
  have hi9:=nO.to (Ch.of hbr) (nO.x.moved hbr) htp
  have hgr:=heap_alloc_new w8 (.cells #[.int .i64 e.kind,.slice o8 e.set.length q8,.slice o9 e.parts.length q9] 35)
  obtain⟨W8,dG⟩:∃W8,W8=w8.alloc (.cells #[.int .i64 e.kind,.slice o8 e.set.length q8,.slice o9 e.parts.length q9] 35):=⟨_,rfl⟩
  have jC:=qh.to (Ag.of hbr)
  rw[←dG] at hi9 hgr jC
  obtain⟨rb,hrb⟩:∃rb,rb=w8.heap.size:=⟨_,rfl⟩
  have WB:W7.heap.size≤w8.heap.size:=gF.size
  have htr:¬tb=rb:=by omega
  have Qd:¬rb=tb:=by omega
  rw[←hrb] at hgr
  obtain⟨⟨a0,a1,a2⟩,b0,b1,b2⟩:=ay hgr
  obtain⟨⟨d0,d1,d2,d3,d4,d5⟩,g0,g1,g2,g3,g4,g5⟩:=dH hi9.ht
  obtain⟨W9,bP⟩:∃W9,W9=((W8.setCell ⟨tb,3,none⟩ (.int .i64 e.kind)).setCell ⟨tb,4,none⟩ (.slice o8 e.set.length q8)).setCell ⟨tb,5,none⟩ (.slice o9 e.parts.length q9):=⟨_,rfl⟩
  have hi9':=hi9.Cn HX.out (.int .i64 e.kind) (.slice o8 e.set.length q8) (.slice o9 e.parts.length q9) hwt
  rw[←bP] at hi9'
  have Qe:w.heap.size≤W7.heap.size:=H7.out.c.size
  have uj : KP (fun j => w.heap.size ≤ j ∧ j ≠ tb) W9 (fun w' => bI w' e (.slice o8 e.set.length q8) (.slice o9 e.parts.length q9)) := by
   rw[bP]
   exact(jC.sub (fun j _ hj=>(⟨by have h2:W7.heap.size≤j:=hj;omega,by have h2:W7.heap.size≤j:=hj;omega⟩:w.heap.size≤j∧j≠tb))).to ((((Ag.refl _ _).setCell (fun h=>h.2 rfl) _).setCell (fun h=>h.2 rfl) _).setCell (fun h=>h.2 rfl) _)
  have vI:=Lib.hid dG
  have uf:=Lib.hid bP
  have Ht:=Lib.hid hrb
  have HI:=Lib.hid (And.intro hi9' uj)
  clear nO hi9 hi9' hbr hgr qh jC uj gF dG bP hrb u0 u1 u2 m0 m1 m2
  obtain⟨yN,yO,yI⟩:=Kc.out
  subst yI
  have aC:=aU.out.ch hp0 HI.out.1.c HI.out.1.x (by omega)
  obtain⟨⟨c0,c1,c2,c3,Nz,c5,c6⟩,f0,f1,f2,f3,f4,f5,f6⟩:=aM HI.out.1.x.hh
  obtain⟨⟨v0,v1,v2,v3,v4,v5⟩,l0,l1,l2,l3,l4,l5⟩:=dH HI.out.1.ht
  have qY:=Lib.hid aC
  have uS:w0.heap.size≤W9.heap.size:=aC.c.size
  have Qf:=aU.out.n1
  have hsm:=aC.x.small
  have hpk:=aC.x.le
  have hpz:p<W9.heap.size:=lt_of_some HI.out.1.x.hh
  have hrz:tb<W9.heap.size:=lt_of_some HI.out.1.ht
  have hpn:¬p=W9.heap.size:=by omega
  have hrn:¬tb=W9.heap.size:=by omega
  have uT:¬W9.heap.size=p:=by omega
  have He:¬W9.heap.size=tb:=by omega
  clear aC
  go_wp2_with (first|(with_reducible rw[←vI.out];simp only[←Ht.out])|(with_reducible rw[←uf.out]))
  clear a0 a1 a2 b0 b1 b2 d0 d1 d2 d3 d4 d5 g0 g1 g2 g3 g4 g5
  go_region_law
   (refine iY _ rfl _ _ 23 rfl w0.heap.size 54 ir _ 6 88 Tryz.underlying23 uX hr1 hr2 hr3 rfl (by decide) (.slice yN aD.length yO) aD.length (aD.flatMap six) rfl (by repeat (first | exact qY.out.tk.row | refine World.ownsRow.alloc ?_ _ | refine bX ?_)) _ 1 _ rfl (by first | exact bE rfl (by simp) | exact qD (bE rfl (by simp))) rfl (by simp [Value.oneCell']) (by unfold maxLen; omega) (by omega) (by simp; omega) ?_; intro v8 w9 aI fu dP bF; obtain ⟨o7, c7, rfl⟩ := au aI
    have iy:=(bF.block p hp0).trans (aB (by repeat (first|exact Below.refl _ _|refine Below.drew ?_|refine ah ?_ _)) HI.out.1.x.hh)
    obtain⟨⟨z0,z1,z2,z3,z4,z5,z6⟩,y0,y1,y2,y3,y4,y5,y6⟩:=aM iy)
  all_goals (
   have hq : KP (fun j => XB p rv ti ri j ∧ (Value.slice yN aD.length yO).ownBlock ≠ some j) W9 (fun w' => bI w' e (.slice o8 e.set.length q8) (.slice o9 e.parts.length q9)) :=
    HI.out.2.sub (fun j _ hj=>⟨⟨by omega,fun e=>by have:=(aU.out.ru.row.lt j e).2;omega,fun e=>by have:=(aU.out.it.lt j e).2;omega,fun e=>by have:=(aU.out.ir.lt j e).2;omega⟩,fun e=>by have:=(aU.out.tk.row.lt j e).2;omega⟩)
   have kM:=LI.EK HX0.out qY.out (q:=((⟨nm,kd,cls,e⟩:TK),.slice o8 e.set.length q8,.slice o9 e.parts.length q9)) (by repeat (first|exact Below.refl _ _|refine Below.drew ?_|refine ah ?_ _)) (by simpa only[six,hkd] using aI) fu dP bF hq (by omega)
   clear z0 z1 z2 z3 z4 z5 z6 y0 y1 y2 y3 y4 y5 y6
   go_end0
   exact .inr ⟨rfl,_,_,_,_,⟨Hf.out,Zt.out⟩,kM⟩))
structure mP (N:Nat) (aD:List (TK×Value×Value)) (aG:List (RU×Value)) (lt lr:List Int):Prop where
 t:∀q∈aD,q.1.name.size≤1000∧q.1.re.Fit
 r:∀q∈aG,q.1.steps.length≤1000∧Di q.1.steps
 ta:∀n∈lt,∃m:Nat,n=(m:Int)∧m≤N
 ra:∀n∈lr,∃m:Nat,n=(m:Int)∧m≤N
 nt:lt.length=aD.length
 nr:lr.length=aG.length
theorem mP.tok {N n:Nat} {aD:List (TK×Value×Value)} {aG:List (RU×Value)} {lt lr:List Int} {t:TK} {a b:Value} (h:mP N aD aG lt lr) (ht:t.name.size≤1000∧t.re.Fit) (hn:n≤N):mP N (aD++[(t,a,b)]) aG (lt++[(n:Int)]) lr:=
 ⟨fun q hq=>(List.mem_append.1 hq).elim (h.t q) (fun h2=>by rw[List.mem_singleton.1 h2];exact ht),h.r,fun q hq=>(List.mem_append.1 hq).elim (h.ta q) (fun h2=>⟨n,List.mem_singleton.1 h2,hn⟩),h.ra,by simp[h.nt],h.nr⟩
theorem mP.rule {N n:Nat} {aD:List (TK×Value×Value)} {aG:List (RU×Value)} {lt lr:List Int} {t:RU} {a:Value} (h:mP N aD aG lt lr) (ht:t.steps.length≤1000∧Di t.steps) (hn:n≤N):mP N aD (aG++[(t,a)]) lt (lr++[(n:Int)]):=
 ⟨h.t,fun q hq=>(List.mem_append.1 hq).elim (h.r q) (fun h2=>by rw[List.mem_singleton.1 h2];exact ht),h.ta,fun q hq=>(List.mem_append.1 hq).elim (h.ra q) (fun h2=>⟨n,List.mem_singleton.1 h2,hn⟩),h.nt,by simp[h.nr]⟩
def EJ (N p k:Nat) (U:List Uw) (wv:Value) (w0:World) (x:Ending) (w':World):Prop:=
 PB N p w0 x w'∨(x=.returned (.tuple #[])∧∃(k':Nat) (tv rv ti ri:Value) (aD:List (TK×Value×Value)) (aG:List (RU×Value)) (lt lr:List Int),k<k'∧mP N aD aG lt lr∧LI w0 w' p U k' wv tv rv ti ri aD aG lt lr)
theorem Nr (N p k k0 d0:Nat) (U:List Uw) (V:Pm.Ws) (hU:lS N U V) (hN:N≤100000) (wv tv rv ti ri:Value) (dz dA dB dD:Value) (aD:List (TK×Value×Value)) (aG:List (RU×Value)) (lt lr:List Int) (w0 w:World) (h0:PI w0 p U k0 d0 wv dz dA dB dD) (aC:LI w0 w p U k wv tv rv ti ri aD aG lt lr) (hf:mP N aD aG lt lr) (qk:Int) (qb:ByteArray) (qn:Nat) (hqq:U[k]? = some (qk,qb,qn)) (h5:qk=5) :
 Calls Tryz.prog 23 #[.pointer (some ⟨p,0,none⟩)] w (EJ N p k U wv w0):=by
 have dw:=aC.x.lt
 have hp0:=h0.lt
 have hkl:=aC.x.le
 have hsm:=aC.x.small
 have rG:=aC.n3
 have sJ:=aC.c.size
 obtain⟨o5,c5,hv5⟩:=au aC.it
 subst hv5
 have hfd0:∀(a c:Int) (b:ByteArray) (w:World),(Instr.field 72 (.agg #[.int .i64 a,.string b,.int .i64 c]) 0).run Tryz.prog w=.ok (.int .i64 a) w:=fun _ _ _ _=>by kernel_rfl
 have CB:∀(a c:Int) (b:ByteArray) (w:World),(Instr.field 72 (.agg #[.int .i64 a,.string b,.int .i64 c]) 2).run Tryz.prog w=.ok (.int .i64 c) w:=fun _ _ _ _=>by kernel_rfl
 subst h5
 obtain⟨ii,hi0,hi1,hi2,hi3⟩:=qj
 have aU:=Lib.hid aC
 have HX0:=Lib.hid h0
 have HQ:=Lib.hid hqq
 clear aC h0 hqq
 go_enter Tryz.func23,Tryz.ntmps23
 go_wp2_with fail
 refine(bD p k 0 U wv tv rv (.slice o5 lt.length c5) ri ((5:Int),qb,qn) _ aU.out.x HQ.out).mono ?_
 rintro x w1 ⟨rfl,hb1⟩
 dsimp only[iZ]
 have H1:=Lib.hid (aU.out.ch hp0 (Ch.of hb1) (aU.out.x.moved hb1) (Nat.le_refl _))
 clear hb1
 go_wp2_with fail
 refine(dO 5 _).mono ?_
 rintro x lQ ⟨b12,rfl,hbx,hbt⟩
 have aF:=Lib.hid (And.intro (H1.out.x.moved hbt) (And.intro hbx hbt))
 clear hbx hbt
 go_wp2_with fail
 refine(oO p k 0 U wv tv rv (.slice o5 lt.length c5) ri 5 b12 ((5:Int),qb,qn) _ (by decide) aF.out.1 HQ.out aF.out.2.1).mono ?_
 rintro x w2 ⟨rfl,hc2,hx2⟩
 replace hc2:=(Ch.of (p:=p) aF.out.2.2).trans hc2
 rw[show iU 5 ((5:Int),qb,qn)=true from rfl] at hx2 ⊢
 rw[if_pos rfl] at hx2
 have H2:=Lib.hid (H1.out.ch hp0 hc2 hx2 (Nat.le_succ _))
 clear hc2 hx2
 go_wp2_with fail
 exact bodyPost_ret (results_none rfl _ _ _) rfl (.inr ⟨rfl,_,_,_,_,_,_,_,_,_,Nat.lt_succ_self _,hf,H2.out⟩)
theorem Ld (N p k k0 d0:Nat) (U:List Uw) (V:Pm.Ws) (hU:lS N U V) (hN:N≤100000) (wv tv rv ti ri:Value) (dz dA dB dD:Value) (aD:List (TK×Value×Value)) (aG:List (RU×Value)) (lt lr:List Int) (w0 w:World) (h0:PI w0 p U k0 d0 wv dz dA dB dD) (aC:LI w0 w p U k wv tv rv ti ri aD aG lt lr) (hf:mP N aD aG lt lr) (qk:Int) (qb:ByteArray) (qn:Nat) (hqq:U[k]? = some (qk,qb,qn)) (hT:tst 1 ⟨#[116,111,107]⟩ (qk,qb,qn)=true)
 (hre:∀(k:Nat) (q:Uw),U[k]? = some q→q.1=4→∀w,Calls Tryz.prog 14 #[.string q.2.1] w fun x w'=>(∃(c:Int) (z:Nat),oM c z w x w'∧c≠0∧c≠2∧q.2.2+1+z≤N)∨∃e:RE,e.Fit∧lZ e w x w') :
 Calls Tryz.prog 23 #[.pointer (some ⟨p,0,none⟩)] w (EJ N p k U wv w0):=by
 have dw:=aC.x.lt
 have hp0:=h0.lt
 have hkl:=aC.x.le
 have hsm:=aC.x.small
 have rG:=aC.n3
 have sJ:=aC.c.size
 obtain⟨o5,c5,hv5⟩:=au aC.it
 subst hv5
 have hfd0:∀(a c:Int) (b:ByteArray) (w:World),(Instr.field 72 (.agg #[.int .i64 a,.string b,.int .i64 c]) 0).run Tryz.prog w=.ok (.int .i64 a) w:=fun _ _ _ _=>by kernel_rfl
 have CB:∀(a c:Int) (b:ByteArray) (w:World),(Instr.field 72 (.agg #[.int .i64 a,.string b,.int .i64 c]) 2).run Tryz.prog w=.ok (.int .i64 c) w:=fun _ _ _ _=>by kernel_rfl
 have RD:=hT
 unfold tst at RD
 simp at RD
 obtain rfl:=RD.1
 clear RD
 have hnq:=hU.pl _ _ hqq
 dsimp only at hnq
 obtain⟨ii,hi0,hi1,hi2,hi3⟩:=qj
 have aU:=Lib.hid aC
 have HX0:=Lib.hid h0
 have RF:=Lib.hid hT
 have oN:=Lib.hid hre
 have NH:=Lib.hid (And.intro hf hnq)
 have HQ:=Lib.hid hqq
 clear aC h0 hT hre hf hnq hqq
 go_enter Tryz.func23,Tryz.ntmps23
 go_wp2_with fail
 refine(bD p k 0 U wv tv rv (.slice o5 lt.length c5) ri ((1:Int),qb,qn) _ aU.out.x HQ.out).mono ?_
 rintro x w1 ⟨rfl,hb1⟩
 dsimp only[iZ]
 have H1:=Lib.hid (aU.out.ch hp0 (Ch.of hb1) (aU.out.x.moved hb1) (Nat.le_refl _))
 clear hb1
 go_wp2_with fail
 refine(dO 5 _).mono ?_
 rintro x lQ ⟨b12,rfl,hbx,hbt⟩
 have aF:=Lib.hid (And.intro (H1.out.x.moved hbt) (And.intro hbx hbt))
 clear hbx hbt
 go_wp2_with fail
 refine(oO p k 0 U wv tv rv (.slice o5 lt.length c5) ri 5 b12 ((1:Int),qb,qn) _ (by decide) aF.out.1 HQ.out aF.out.2.1).mono ?_
 rintro x w2 ⟨rfl,hc2,hx2⟩
 replace hc2:=(Ch.of (p:=p) aF.out.2.2).trans hc2
 rw[show iU 5 ((1:Int),qb,qn)=false from rfl] at hx2 ⊢
 rw[if_neg (by decide)] at hx2
 have H2:=Lib.hid (H1.out.ch hp0 hc2 hx2 (Nat.le_refl _))
 clear hc2 hx2
 go_wp2_with fail
 refine(aH 1 ⟨#[116,111,107]⟩ _).mono ?_
 rintro x vg ⟨b13,kD,rfl,hbx,hbt⟩
 have bL:=Lib.hid (And.intro (H2.out.x.moved hbt) (And.intro hbx hbt))
 clear hbx hbt
 go_wp2_with fail
 refine(bV p k 0 U wv tv rv (.slice o5 lt.length c5) ri 1 ⟨#[116,111,107]⟩ b13 kD ((1:Int),qb,qn) _ (by decide) bL.out.1 HQ.out bL.out.2.1 ?_ ?_).mono ?_
 · intro e;have h1:=bL.out.1.hh;rw[←e,bL.out.2.1.h1] at h1;cases h1
 · intro e;have h1:=bL.out.1.hh;rw[←e,bL.out.2.1.h2] at h1;cases h1
 rintro x w3 ⟨rfl,hc3,hx3⟩
 replace hc3:=(Ch.of (p:=p) bL.out.2.2).trans hc3
 rw[show tst 1 ⟨#[116,111,107]⟩ ((1:Int),qb,qn)=true from RF.out] at hx3 ⊢
 rw[if_pos rfl] at hx3
 have gQ:=H2.out.ch hp0 hc3 hx3 (Nat.le_succ _)
 clear hc3 hx3
 have hpz:p<w3.heap.size:=lt_of_some gQ.x.hh
 have uS:w0.heap.size≤w3.heap.size:=gQ.c.size
 obtain⟨⟨c0,c1,c2,c3,c4,vo,c6⟩,f0,f1,f2,f3,f4,f5,f6⟩:=aM gQ.x.hh
 have H4:=Lib.hid gQ
 have hpn:¬p=w3.heap.size:=by omega
 have uT:¬w3.heap.size=p:=by omega
 clear gQ
 go_wp2_with (at_builtin;refine aW _ rfl _ _ 31 rfl w0.heap.size 3 ii _ 1 8 Tryz.underlying31 hi0 hi1 hi2 hi3 rfl (by decide) (.slice o5 lt.length c5) lt.length (lt.map (Value.int .i64)) rfl (by repeat (first|exact H4.out.it|refine World.ownsRow.alloc ?_ _|refine bX ?_)) _ 1 _ rfl (by exact bE rfl (by simp)) rfl (by simp[Value.oneCell']) (by unfold maxLen;omega) (by omega) (by simp;omega) ?_;intro v9 w9 aI fu dP bF;obtain⟨o9,c9,rfl⟩:=au aI;have iy:=(bF.block p hp0).trans (aB (by repeat (first|exact Below.refl _ _|refine Below.drew ?_|refine ah ?_ _)) H4.out.x.hh);obtain⟨⟨z0,z1,z2,z3,z4,z5,z6⟩,y0,y1,y2,y3,y4,y5,y6⟩:=aM iy)
 have kM:=LI.Kl HX0.out H4.out (q:=(qn:Int)) (by repeat (first|exact Below.refl _ _|refine Below.drew ?_|refine ah ?_ _)) aI fu dP bF (by omega)
 have H5:=Lib.hid kM
 clear kM aI fu dP bF iy z0 z1 z2 z3 z4 z5 z6 y0 y1 y2 y3 y4 y5 y6 c0 c1 c2 c3 c4 vo c6 f0 f1 f2 f3 f4 f5 f6
 refine(Lj N p k k0 d0 U V hU hN wv tv rv _ ri dz dA dB dD aD aG _ lr w0 _ HX0.out H5.out oN.out).mono ?_
 rintro x w6 (hbad|⟨rfl,t,tv',a,b,hfit,oq⟩)
 · obtain ⟨c9, z9, rfl, aO, aP, aQ, aR⟩ := hbad
   have HF:=Lib.hid (PB.mk aO aP aQ (H5.out.c.trans aR))
   clear aO aP aQ aR
   go_wp2_with fail
   exact⟨rfl,.inl HF.out⟩
 obtain⟨⟨ek,eb,en⟩,eB⟩:=hU.v.at oq.x.le
 have Hl:=hU.pl _ _ eB
 have zD:=Lib.hid (And.intro Hl (NH.out.1.tok (a:=a) (b:=b) hfit NH.out.2))
 clear Hl
 have H6:=Lib.hid oq
 have nN:=Lib.hid eB
 clear oq eB
 go_wp2_with fail
 refine(bD p (k+6) 0 U wv tv' rv (.slice o9 (lt.length+1) c9) ri (ek,eb,en) _ H6.out.x nN.out).mono ?_
 rintro x w7 ⟨rfl,gY⟩
 dsimp only[iZ]
 have H7:=Lib.hid (H6.out.ch hp0 (Ch.of gY) (H6.out.x.moved gY) (Nat.le_refl _))
 clear gY
 by_cases he:ek=0
 · have e5 : (ek == 0) = true := by simpa using he
   have e6:(ek != 0)=false:=by simpa using he
   go_wp2_with fail
   go_end0
   exact .inr ⟨rfl,_,_,_,_,_,_,_,_,_,(by omega),zD.out.2,H7.out⟩
 have e5:(ek == 0)=false:=by simpa using he
 have e6:(ek != 0)=true:=by simpa using he
 go_wp2_with fail
 refine(dO 5 _).mono ?_
 rintro x WC ⟨b18,rfl,hbx,hbt⟩
 have qZ:=Lib.hid (And.intro (H7.out.x.moved hbt) (And.intro hbx hbt))
 clear hbx hbt
 go_wp2_with fail
 refine(pV N p (k+6) 0 U wv tv' rv (.slice o9 (lt.length+1) c9) ri 5 b18 (ek,eb,en) _ (by decide) qZ.out.1 nN.out qZ.out.2.1 zD.out.1).mono ?_
 rintro x w8 (hbad|⟨-,rfl,hc8,jQ⟩)
 · obtain ⟨c9, z9, rfl, aO, aP, aQ, aR⟩ := hbad
   have HF:=Lib.hid (PB.mk aO aP aQ (H7.out.c.trans ((Ch.of qZ.out.2.2).trans aR)))
   clear aO aP aQ aR
   go_wp2_with fail
   exact⟨rfl,.inl HF.out⟩
 replace hc8:=(Ch.of (p:=p) qZ.out.2.2).trans hc8
 have bY:=H7.out.ch hp0 hc8 jQ (Nat.le_succ _)
 clear hc8 jQ
 go_wp2_with fail
 go_end0
 exact .inr ⟨rfl,_,_,_,_,_,_,_,_,_,(by omega),zD.out.2,bY⟩
theorem Jc (N p k k0 d0:Nat) (U:List Uw) (V:Pm.Ws) (hU:lS N U V) (hN:N≤100000) (wv tv rv ti ri:Value) (dz dA dB dD:Value) (aD:List (TK×Value×Value)) (aG:List (RU×Value)) (lt lr:List Int) (w0 w:World) (h0:PI w0 p U k0 d0 wv dz dA dB dD) (aC:LI w0 w p U k wv tv rv ti ri aD aG lt lr) (hf:mP N aD aG lt lr) (qk:Int) (qb:ByteArray) (qn:Nat) (hqq:U[k]? = some (qk,qb,qn)) (YC:iU 5 (qk,qb,qn)=false) (YD:tst 1 ⟨#[116,111,107]⟩ (qk,qb,qn)=false) :
 Calls Tryz.prog 23 #[.pointer (some ⟨p,0,none⟩)] w (EJ N p k U wv w0):=by
 have dw:=aC.x.lt
 have hp0:=h0.lt
 have hkl:=aC.x.le
 have hsm:=aC.x.small
 have rG:=aC.n4
 have sJ:=aC.c.size
 obtain⟨o5,c5,hv5⟩:=au aC.ir
 subst hv5
 have hfd0:∀(a c:Int) (b:ByteArray) (w:World),(Instr.field 72 (.agg #[.int .i64 a,.string b,.int .i64 c]) 0).run Tryz.prog w=.ok (.int .i64 a) w:=fun _ _ _ _=>by kernel_rfl
 have CB:∀(a c:Int) (b:ByteArray) (w:World),(Instr.field 72 (.agg #[.int .i64 a,.string b,.int .i64 c]) 2).run Tryz.prog w=.ok (.int .i64 c) w:=fun _ _ _ _=>by kernel_rfl
 have hnq:=hU.pl _ _ hqq
 dsimp only at hnq
 obtain⟨ii,hi0,hi1,hi2,hi3⟩:=qj
 have aU:=Lib.hid aC
 have HX0:=Lib.hid h0
 have RF:=Lib.hid (And.intro YC YD)
 have NH:=Lib.hid (And.intro hf hnq)
 have HQ:=Lib.hid hqq
 clear aC h0 YC YD hf hqq
 go_enter Tryz.func23,Tryz.ntmps23
 go_wp2_with fail
 refine(bD p k 0 U wv tv rv ti (.slice o5 lr.length c5) (qk,qb,qn) _ aU.out.x HQ.out).mono ?_
 rintro x w1 ⟨rfl,hb1⟩
 dsimp only[iZ]
 have H1:=Lib.hid (aU.out.ch hp0 (Ch.of hb1) (aU.out.x.moved hb1) (Nat.le_refl _))
 clear hb1
 go_wp2_with fail
 refine(dO 5 _).mono ?_
 rintro x lQ ⟨b12,rfl,hbx,hbt⟩
 have aF:=Lib.hid (And.intro (H1.out.x.moved hbt) (And.intro hbx hbt))
 clear hbx hbt
 go_wp2_with fail
 refine(oO p k 0 U wv tv rv ti (.slice o5 lr.length c5) 5 b12 (qk,qb,qn) _ (by decide) aF.out.1 HQ.out aF.out.2.1).mono ?_
 rintro x w2 ⟨rfl,hc2,hx2⟩
 replace hc2:=(Ch.of (p:=p) aF.out.2.2).trans hc2
 rw[RF.out.1] at hx2 ⊢
 rw[if_neg (by decide)] at hx2
 have H2:=Lib.hid (H1.out.ch hp0 hc2 hx2 (Nat.le_refl _))
 clear hc2 hx2
 go_wp2_with fail
 refine(aH 1 ⟨#[116,111,107]⟩ _).mono ?_
 rintro x vg ⟨b13,kD,rfl,hbx,hbt⟩
 have bL:=Lib.hid (And.intro (H2.out.x.moved hbt) (And.intro hbx hbt))
 clear hbx hbt
 go_wp2_with fail
 refine(bV p k 0 U wv tv rv ti (.slice o5 lr.length c5) 1 ⟨#[116,111,107]⟩ b13 kD (qk,qb,qn) _ (by decide) bL.out.1 HQ.out bL.out.2.1 ?_ ?_).mono ?_
 · intro e;have h1:=bL.out.1.hh;rw[←e,bL.out.2.1.h1] at h1;cases h1
 · intro e;have h1:=bL.out.1.hh;rw[←e,bL.out.2.1.h2] at h1;cases h1
 rintro x w3 ⟨rfl,hc3,hx3⟩
 replace hc3:=(Ch.of (p:=p) bL.out.2.2).trans hc3
 rw[RF.out.2] at hx3 ⊢
 rw[if_neg (by decide)] at hx3
 have H3:=Lib.hid (H2.out.ch hp0 hc3 hx3 (Nat.le_refl _))
 clear hc3 hx3
 go_wp2_with fail
 refine(aH 1 ⟨#[114,117,108,101]⟩ _).mono ?_
 rintro x Rz ⟨b14,Ci,rfl,hbx,hbt⟩
 have gI:=Lib.hid (And.intro (H3.out.x.moved hbt) (And.intro hbx hbt))
 clear hbx hbt
 go_wp2_with fail
 refine(jg N p k 0 U wv tv rv ti (.slice o5 lr.length c5) 1 ⟨#[114,117,108,101]⟩ b14 Ci (qk,qb,qn) _ (by decide) gI.out.1 HQ.out gI.out.2.1 ?_ ?_ hnq).mono ?_
 · intro e;have h1:=gI.out.1.hh;rw[←e,gI.out.2.1.h1] at h1;cases h1
 · intro e;have h1:=gI.out.1.hh;rw[←e,gI.out.2.1.h2] at h1;cases h1
 rintro x w4 (hbad|⟨-,rfl,hc4,hx4⟩)
 · obtain ⟨c9, z9, rfl, aO, aP, aQ, aR⟩ := hbad
   have HF:=Lib.hid (PB.mk aO aP aQ (H3.out.c.trans ((Ch.of gI.out.2.2).trans aR)))
   clear aO aP aQ aR
   go_wp2_with fail
   exact⟨rfl,.inl HF.out⟩
 replace hc4:=(Ch.of (p:=p) gI.out.2.2).trans hc4
 have gQ:=H3.out.ch hp0 hc4 hx4 (Nat.le_succ _)
 clear hc4 hx4
 have hpz:p<w4.heap.size:=lt_of_some gQ.x.hh
 have uS:w0.heap.size≤w4.heap.size:=gQ.c.size
 obtain⟨⟨c0,c1,c2,c3,c4,vo,c6⟩,f0,f1,f2,f3,f4,f5,f6⟩:=aM gQ.x.hh
 have H4:=Lib.hid gQ
 have hpn:¬p=w4.heap.size:=by omega
 have uT:¬w4.heap.size=p:=by omega
 clear gQ
 go_wp2_with (at_builtin;refine aW _ rfl _ _ 31 rfl w0.heap.size 3 ii _ 1 8 Tryz.underlying31 hi0 hi1 hi2 hi3 rfl (by decide) (.slice o5 lr.length c5) lr.length (lr.map (Value.int .i64)) rfl (by repeat (first|exact H4.out.ir|refine World.ownsRow.alloc ?_ _|refine bX ?_)) _ 1 _ rfl (by exact bE rfl (by simp)) rfl (by simp[Value.oneCell']) (by unfold maxLen;omega) (by omega) (by simp;omega) ?_;intro v9 w9 aI fu dP bF;obtain⟨o9,c9,rfl⟩:=au aI;have iy:=(bF.block p hp0).trans (aB (by repeat (first|exact Below.refl _ _|refine Below.drew ?_|refine ah ?_ _)) H4.out.x.hh);obtain⟨⟨z0,z1,z2,z3,z4,z5,z6⟩,y0,y1,y2,y3,y4,y5,y6⟩:=aM iy)
 have kM:=LI.pushB HX0.out H4.out (q:=(qn:Int)) (by repeat (first|exact Below.refl _ _|refine Below.drew ?_|refine ah ?_ _)) aI fu dP bF (by omega)
 have H5:=Lib.hid kM
 clear kM aI fu dP bF iy z0 z1 z2 z3 z4 z5 z6 y0 y1 y2 y3 y4 y5 y6 c0 c1 c2 c3 c4 vo c6 f0 f1 f2 f3 f4 f5 f6
 go_wp2_with fail
 refine(Nv N p k k0 d0 U V hU wv tv rv ti _ dz dA dB dD aD aG lt _ w0 _ HX0.out H5.out).mono ?_
 rintro x w6 (hbad|⟨rfl,t,k2,rv',a,hk2,hfit,oq⟩)
 · obtain ⟨c9, z9, rfl, aO, aP, aQ, aR⟩ := hbad
   have HF:=Lib.hid (PB.mk aO aP aQ (H5.out.c.trans aR))
   clear aO aP aQ aR
   go_wp2_with fail
   exact⟨rfl,.inl HF.out⟩
 obtain⟨⟨ek,eb,en⟩,eB⟩:=hU.v.at oq.x.le
 have Hl:=hU.pl _ _ eB
 have zD:=Lib.hid (And.intro Hl (NH.out.1.rule (a:=a) hfit NH.out.2))
 clear Hl
 have H6:=Lib.hid oq
 have nN:=Lib.hid eB
 clear oq eB
 go_wp2_with fail
 refine(bD p k2 0 U wv tv rv' ti (.slice o9 (lr.length+1) c9) (ek,eb,en) _ H6.out.x nN.out).mono ?_
 rintro x w7 ⟨rfl,gY⟩
 dsimp only[iZ]
 have H7:=Lib.hid (H6.out.ch hp0 (Ch.of gY) (H6.out.x.moved gY) (Nat.le_refl _))
 clear gY
 by_cases he:ek=0
 · have e5 : (ek == 0) = true := by simpa using he
   have e6:(ek != 0)=false:=by simpa using he
   go_wp2_with fail
   go_end0
   exact .inr ⟨rfl,_,_,_,_,_,_,_,_,_,(by omega),zD.out.2,H7.out⟩
 have e5:(ek == 0)=false:=by simpa using he
 have e6:(ek != 0)=true:=by simpa using he
 go_wp2_with fail
 refine(dO 5 _).mono ?_
 rintro x WC ⟨b18,rfl,hbx,hbt⟩
 have qZ:=Lib.hid (And.intro (H7.out.x.moved hbt) (And.intro hbx hbt))
 clear hbx hbt
 go_wp2_with fail
 refine(pV N p k2 0 U wv tv rv' ti (.slice o9 (lr.length+1) c9) 5 b18 (ek,eb,en) _ (by decide) qZ.out.1 nN.out qZ.out.2.1 zD.out.1).mono ?_
 rintro x w8 (hbad|⟨-,rfl,hc8,jQ⟩)
 · obtain ⟨c9, z9, rfl, aO, aP, aQ, aR⟩ := hbad
   have HF:=Lib.hid (PB.mk aO aP aQ (H7.out.c.trans ((Ch.of qZ.out.2.2).trans aR)))
   clear aO aP aQ aR
   go_wp2_with fail
   exact⟨rfl,.inl HF.out⟩
 replace hc8:=(Ch.of (p:=p) qZ.out.2.2).trans hc8
 have bY:=H7.out.ch hp0 hc8 jQ (Nat.le_succ _)
 clear hc8 jQ
 go_wp2_with fail
 go_end0
 exact .inr ⟨rfl,_,_,_,_,_,_,_,_,_,(by omega),zD.out.2,bY⟩
end Go.Proofs.YtfkmajjgkdjncaaGreatDoor
