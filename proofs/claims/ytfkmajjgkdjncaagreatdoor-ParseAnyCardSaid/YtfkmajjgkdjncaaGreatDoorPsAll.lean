/- Merged. -/
import Derived.Test.YtfkmajjgkdjncaaGreatDoorPsName
set_option linter.unusedVariables false
set_option linter.unusedSimpArgs false
set_option maxHeartbeats 4000000
set_option maxRecDepth 100000
namespace Go.Proofs.YtfkmajjgkdjncaaGreatDoor
open Go.RowKit De Wd
theorem um (p k d k1 k2:Nat) (U:List Uw) (V:Pm.Ws) (hV:iq V U) (wv tv rv ti ri:Value) (a e:PT) (w:World) (h:PI w p U k d wv tv rv ti ri) (P:Nat→PT→Nat→Prop) (hmono:∀k b k',P k b k'→k≤k') (h1:P k a k1) (hl:pX V P a k1 e k2)
 (hat:∀w k a k1,P k a k1→PI w p U k d wv tv rv ti ri→Calls Tryz.prog 123 #[.pointer (some ⟨p,0,none⟩)] w fun x w'=>mR w w' a x∧Ch w w' p∧PI w' p U k1 d wv tv rv ti ri) :
 Calls Tryz.prog 95 #[.pointer (some ⟨p,0,none⟩)] w fun x w'=>mR w w' e x∧Ch w w' p∧PI w' p U k2 d wv tv rv ti ri:=by
 have hlt:=h.lt
 have hA:=h.moved (ah (Below.refl _ _) (.cells #[.int .i64 0,.slice none 0 0,.slice none 0 0,.slice none 0 0] 58))
 have HX:=Lib.hid h
 have HA:=Lib.hid hA
 have HT:=Lib.hid hat
 have HL:=Lib.hid hl
 have sP:=Lib.hid h1
 clear h hA hat hl h1
 go_enter Tryz.func95,Tryz.ntmps95
 go_wp2_with fail
 refine(HT.out _ _ _ _ sP.out HA.out).mono ?_
 rintro x w1 ⟨⟨nv,ev,lv,rfl,hkp⟩,hch,hxi⟩
 obtain⟨⟨o1,q1,rfl⟩,⟨o2,q2,rfl⟩,⟨o3,q3,rfl⟩⟩:=hkp.here.form
 have hs1:w.heap.size<w1.heap.size:=by have:=hch.size;simp at this;omega
 have hr1:w1.heap[w.heap.size]? = some (.cells #[.int .i64 0,.slice none 0 0,.slice none 0 0,.slice none 0 0] 58 (0,0)):=by rw[hch.block _ (by simp) (by omega)];exact heap_alloc_new w _
 have hpb:p≠w1.heap.size:=by omega
 have gT:=hxi.moved (ah (Below.refl _ _) (.cells #[.int .i64 a.kind,.slice o1 a.names.length q1,.slice o2 a.ends.length q2,.slice o3 a.parts.length q3] 58))
 have hpi:QI w (w1.alloc (.cells #[.int .i64 a.kind,.slice o1 a.names.length q1,.slice o2 a.ends.length q2,.slice o3 a.parts.length q3] 58)) p w1.heap.size w.heap.size U d k1 wv tv rv ti ri a (.slice o1 a.names.length q1) (.slice o2 a.ends.length q2) (.slice o3 a.parts.length q3):=by
  refine⟨gT,?_,heap_alloc_new w1 _,⟨.int .i64 0,.slice none 0 0,.slice none 0 0,.slice none 0 0,?_⟩,?_⟩
  · exact((Ch.of (ah (Below.refl _ _) _)).trans hch).trans (Ch.of (ah (Below.refl _ _) _))
  · rw[(ah (Below.refl w1.heap.size w1) _).block _ hs1];exact hr1
  · intro w' hag
    refine hkp w' ⟨hag.os,hag.tape,hag.output,by have:=hag.size;simp at this;omega,fun j hj hS=>?_⟩
    have hS':w.heap.size+1≤j:=by simpa using hS
    rw[hag.block j (by simp;omega) ⟨by omega,by omega⟩]
    exact(ah (Below.refl w1.heap.size w1) _).block j hj
 have oW:=Lib.hid hpi
 have hle:=hxi.le
 clear hpi gT hxi hch hkp hr1
 go_wp2_with fail
 go_loopg [] (U.length-k1) (fun g wx=>∃(a':PT) (ki:Nat) (o4 o5 o6:Option Addr) (q4 q5 q6:Nat),ki+g=U.length∧QI w wx p w1.heap.size w.heap.size U d ki wv tv rv ti ri a' (.slice o4 a'.names.length q4) (.slice o5 a'.ends.length q5) (.slice o6 a'.parts.length q6)∧pX V P a' ki e k2)
 case atStart=>exact⟨a,k1,_,_,_,_,_,_,by omega,oW.out,HL.out⟩
 case round=>
  obtain⟨a',ki,o4,o5,o6,q4,q5,q6,hkg,hpi,hpo⟩:=hrel
  have HP:=Lib.hid hpi
  have Lp:=hpi.x.le
  clear hpi
  rcases hpo.inv with⟨hcnd,rfl,rfl⟩|⟨hcnd,nb,kj,hpp,gU⟩
  · have HN := Lib.hid hcnd
    clear hpo hcnd
    go_wp2_with fail
    refine(aH 3 ⟨#[124]⟩ _).mono ?_
    rintro x wt ⟨b1,b2,rfl,hbx,hbt⟩
    have Cq:=lt_of_some HP.out.hb
    have HT0:=Lib.hid (And.intro (HP.out.x.moved hbt) (And.intro hbx hbt))
    obtain⟨qq,hqq⟩:=hV.at HP.out.x.le
    clear hbx hbt
    go_wp2_with fail
    refine(bV p ki d U wv tv rv ti ri 3 ⟨#[124]⟩ b1 b2 qq _ (by decide) HT0.out.1 hqq HT0.out.2.1 ?_ ?_).mono ?_
    · intro e;have h1:=HT0.out.1.hh;rw[←e,HT0.out.2.1.h1] at h1;cases h1
    · intro e;have h1:=HT0.out.1.hh;rw[←e,HT0.out.2.1.h2] at h1;cases h1
    rintro x w2 ⟨rfl,hc2',hx2⟩
    have hc2:=(Ch.of (p:=p) HT0.out.2.2).trans hc2'
    clear hc2'
    have hsg:=cZ hV hqq 124
    rw[decide_eq_false (show ¬Pm.sg V ki ((124:UInt8).toNat:Int) from HN.out)] at hsg
    rw[hsg] at hx2 ⊢
    rw[if_neg (by decide)] at hx2
    clear hsg hqq
    have hb2:=(hc2.block _ (lt_of_some HP.out.hb) (fun e=>hpb e.symm)).trans HP.out.hb
    obtain⟨z0,z1,z2,z3,hz⟩:=HP.out.hr
    have hr2:=(hc2.block _ (lt_of_some hz) (by omega)).trans hz
    have hbr:¬w1.heap.size=w.heap.size:=by omega
    obtain⟨⟨d0,d1,d2,d3⟩,g0,g1,g2,g3⟩:=aS hb2
    obtain⟨⟨r0,r1,r2,r3⟩,x0,x1,x2,x3⟩:=aS hr2
    have bM:=HP.out.kp.to (hc2.ag.sub (fun j _ hj=>by omega))
    have HF:=Lib.hid (uZ HX.out hr2 rfl (HP.out.c.trans hc2) hx2 bM (fun j hj=>hj.1))
    clear hb2 hz bM hc2 hx2 HP hr2
    go_wp2_with fail
    obtain⟨W9,hW,⟨⟨e0,e1,e2,e3⟩,m0,m1,m2,m3⟩,hre,bZ,eu⟩:=HF.out
    have HW:=Lib.hid hW
    clear hW HF
    rw[←HW.out]
    refine bodyPost_ret (v:=.agg #[.int .i64 a'.kind,.slice o4 a'.names.length q4,.slice o5 a'.ends.length q5,.slice o6 a'.parts.length q6]) (by simp[results,Tryz.results95,go_sem,e0,e1,e2,e3,m0,m1,m2,m3]) rfl ⟨hre,bZ,eu⟩
  · have HN := Lib.hid hcnd
    clear hpo hcnd
    go_wp2_with fail
    refine(aH 3 ⟨#[124]⟩ _).mono ?_
    rintro x wt ⟨b1,b2,rfl,hbx,hbt⟩
    have Cq:=lt_of_some HP.out.hb
    have HT0:=Lib.hid (And.intro (HP.out.x.moved hbt) (And.intro hbx hbt))
    obtain⟨qq,hqq⟩:=hV.at HP.out.x.le
    clear hbx hbt
    go_wp2_with fail
    refine(bV p ki d U wv tv rv ti ri 3 ⟨#[124]⟩ b1 b2 qq _ (by decide) HT0.out.1 hqq HT0.out.2.1 ?_ ?_).mono ?_
    · intro e;have h1:=HT0.out.1.hh;rw[←e,HT0.out.2.1.h1] at h1;cases h1
    · intro e;have h1:=HT0.out.1.hh;rw[←e,HT0.out.2.1.h2] at h1;cases h1
    rintro x w2 ⟨rfl,hc2',hx2⟩
    have hc2:=(Ch.of (p:=p) HT0.out.2.2).trans hc2'
    clear hc2'
    have hsg:=cZ hV hqq 124
    rw[decide_eq_true (show Pm.sg V ki ((124:UInt8).toNat:Int) from HN.out)] at hsg
    rw[hsg] at hx2 ⊢
    rw[if_pos rfl] at hx2
    clear hsg hqq
    have hb2:=(hc2.block _ (lt_of_some HP.out.hb) (fun e=>hpb e.symm)).trans HP.out.hb
    have hblt:=lt_of_some hb2
    obtain⟨z0,z1,z2,z3,hz⟩:=HP.out.hr
    have hr2:=(hc2.block _ (lt_of_some hz) (by omega)).trans hz
    have je:=lt_of_some hr2
    have hbr:¬w1.heap.size=w.heap.size:=by omega
    obtain⟨⟨d0,d1,d2,d3⟩,g0,g1,g2,g3⟩:=aS hb2
    have bM:=HP.out.kp.to (hc2.ag.sub (fun j _ hj=>by omega))
    have HK:=Lib.hid bM
    have HC:=Lib.hid (HP.out.c.trans hc2)
    have fD:=Lib.hid hx2
    have HR2:=Lib.hid hr2
    have HB2:=Lib.hid hb2
    have oZ:=Lib.hid gU
    have lG:¬w2.heap.size=w1.heap.size:=by omega
    clear hb2 hz bM hc2 hx2 hr2 HP gU
    have gq:=Lib.hid hpp
    have zX:=hmono _ _ _ hpp
    clear hpp
    go_wp2_with fail
    go_region_law
     (go_simp;go_at_call 123;refine(HT.out _ _ _ _ gq.out (fD.out.moved (by repeat (first|exact Below.refl _ _|refine Below.drew ?_)))).mono ?_;rintro x w5 ⟨⟨n5,e5,l5,rfl,hk5⟩,aK,hx5⟩;obtain⟨⟨o7,q7,rfl⟩,⟨o8,q8,rfl⟩,⟨o9,q9,rfl⟩⟩:=hk5.here.form;have hb5:=(aK.block _ hblt (fun e=>hpb e.symm)).trans HB2.out;obtain⟨⟨e0,e1,e2,e3⟩,m0,m1,m2,m3⟩:=aS hb5;have jw:w1.heap.size<w5.heap.size:=Nat.lt_of_lt_of_le hblt (show w2.heap.size≤w5.heap.size from aK.size);have sQ:¬w5.heap.size=w1.heap.size:=(fun e=>absurd jw (e▸Nat.lt_irrefl _));have sS:¬w1.heap.size=w5.heap.size:=(fun e=>absurd jw (e▸Nat.lt_irrefl _)))
    all_goals (
     have jO:=(aK.block _ je (fun e=>by omega)).trans HR2.out
     have jy:=HK.out.to (((Ag.refl _ w2).drew).trans (aK.ag.sub (fun j _ hj=>by omega)))
     have jP:=Lib.hid (QI.two (b':=nb) (n5':=w2.heap.size) 6 HX.out (HC.out.trans (Ch.trans (Ch.of (Below.refl _ _).drew) aK)) hx5 hb5 jO jy (hk5.sub (fun j _ hj=>hj)) (by omega) (Nat.le_refl _) (by omega) hblt)
     have hkl:=hx5.le
     clear hb5 jO jy e0 e1 e2 e3 m0 m1 m2 m3 d0 d1 d2 d3 g0 g1 g2 g3 aK hx5 hk5
     try go_wp2_with fail
     go_roundg (U.length-kj)
     case measure=>omega
     case rel=>exact⟨.mk 6 [] [] [a',nb],kj,none,none,some ⟨w5.heap.size,0,none⟩,0,0,2,by omega,jP.out,oZ.out⟩)
end Go.Proofs.YtfkmajjgkdjncaaGreatDoor

set_option maxHeartbeats 4000000
set_option maxRecDepth 100000
namespace Go.Proofs.YtfkmajjgkdjncaaGreatDoor
open Go.RowKit De Wd
theorem AO (p k d k1 k2:Nat) (U:List Uw) (V:Pm.Ws) (hV:iq V U) (wv tv rv ti ri:Value) (a e:PT) (w:World) (h:PI w p U k d wv tv rv ti ri) (P:Nat→PT→Nat→Prop) (hmono:∀k b k',P k b k'→k<k') (h1:P k a k1) (hl:pW V P a k1 e k2)
 (hat:∀w k a k1,P k a k1→PI w p U k d wv tv rv ti ri→Calls Tryz.prog 143 #[.pointer (some ⟨p,0,none⟩)] w fun x w'=>mR w w' a x∧Ch w w' p∧PI w' p U k1 d wv tv rv ti ri) :
 Calls Tryz.prog 123 #[.pointer (some ⟨p,0,none⟩)] w fun x w'=>mR w w' e x∧Ch w w' p∧PI w' p U k2 d wv tv rv ti ri:=by
 have hlt:=h.lt
 have hA:=h.moved (ah (Below.refl _ _) (.cells #[.int .i64 0,.slice none 0 0,.slice none 0 0,.slice none 0 0] 58))
 have HX:=Lib.hid h
 have HA:=Lib.hid hA
 have HT:=Lib.hid hat
 have HL:=Lib.hid hl
 have sP:=Lib.hid h1
 clear h hA hat hl h1
 go_enter Tryz.func123,Tryz.ntmps123
 go_wp2_with fail
 refine(HT.out _ _ _ _ sP.out HA.out).mono ?_
 rintro x w1 ⟨⟨nv,ev,lv,rfl,hkp⟩,hch,hxi⟩
 obtain⟨⟨o1,q1,rfl⟩,⟨o2,q2,rfl⟩,⟨o3,q3,rfl⟩⟩:=hkp.here.form
 have hs1:w.heap.size<w1.heap.size:=by have:=hch.size;simp at this;omega
 have hr1:w1.heap[w.heap.size]? = some (.cells #[.int .i64 0,.slice none 0 0,.slice none 0 0,.slice none 0 0] 58 (0,0)):=by rw[hch.block _ (by simp) (by omega)];exact heap_alloc_new w _
 have hpb:p≠w1.heap.size:=by omega
 have gT:=hxi.moved (ah (Below.refl _ _) (.cells #[.int .i64 a.kind,.slice o1 a.names.length q1,.slice o2 a.ends.length q2,.slice o3 a.parts.length q3] 58))
 have hpi:QI w (w1.alloc (.cells #[.int .i64 a.kind,.slice o1 a.names.length q1,.slice o2 a.ends.length q2,.slice o3 a.parts.length q3] 58)) p w1.heap.size w.heap.size U d k1 wv tv rv ti ri a (.slice o1 a.names.length q1) (.slice o2 a.ends.length q2) (.slice o3 a.parts.length q3):=by
  refine⟨gT,?_,heap_alloc_new w1 _,⟨.int .i64 0,.slice none 0 0,.slice none 0 0,.slice none 0 0,?_⟩,?_⟩
  · exact((Ch.of (ah (Below.refl _ _) _)).trans hch).trans (Ch.of (ah (Below.refl _ _) _))
  · rw[(ah (Below.refl w1.heap.size w1) _).block _ hs1];exact hr1
  · intro w' hag
    refine hkp w' ⟨hag.os,hag.tape,hag.output,by have:=hag.size;simp at this;omega,fun j hj hS=>?_⟩
    have hS':w.heap.size+1≤j:=by simpa using hS
    rw[hag.block j (by simp;omega) ⟨by omega,by omega⟩]
    exact(ah (Below.refl w1.heap.size w1) _).block j hj
 have oW:=Lib.hid hpi
 have hle:=hxi.le
 clear hpi gT hxi hch hkp hr1
 go_wp2_with fail
 go_loopg [] (U.length-k1) (fun g wx=>∃(a':PT) (ki:Nat) (o4 o5 o6:Option Addr) (q4 q5 q6:Nat),ki+g=U.length∧QI w wx p w1.heap.size w.heap.size U d ki wv tv rv ti ri a' (.slice o4 a'.names.length q4) (.slice o5 a'.ends.length q5) (.slice o6 a'.parts.length q6)∧pW V P a' ki e k2)
 case atStart=>exact⟨a,k1,_,_,_,_,_,_,by omega,oW.out,HL.out⟩
 case round=>
  obtain⟨a',ki,o4,o5,o6,q4,q5,q6,hkg,hpi,hpo⟩:=hrel
  have HP:=Lib.hid hpi
  have Lp:=hpi.x.le
  clear hpi
  rcases hpo.inv with⟨hcnd,rfl,rfl⟩|⟨hcnd,nb,kj,hpp,gU⟩
  · have HN := Lib.hid hcnd
    clear hpo hcnd
    go_wp2_with fail
    refine(nS p ki d U V hV wv tv rv ti ri _ HP.out.x).mono ?_
    rintro x w2 ⟨rfl,hb2'⟩
    have hc2:=Ch.of (p:=p) hb2'
    have hx2:=HP.out.x.moved hb2'
    clear hb2'
    rw[decide_eq_false HN.out]
    have hb2:=(hc2.block _ (lt_of_some HP.out.hb) (fun e=>hpb e.symm)).trans HP.out.hb
    obtain⟨z0,z1,z2,z3,hz⟩:=HP.out.hr
    have hr2:=(hc2.block _ (lt_of_some hz) (by omega)).trans hz
    have hbr:¬w1.heap.size=w.heap.size:=by omega
    obtain⟨⟨d0,d1,d2,d3⟩,g0,g1,g2,g3⟩:=aS hb2
    obtain⟨⟨r0,r1,r2,r3⟩,x0,x1,x2,x3⟩:=aS hr2
    have bM:=HP.out.kp.to (hc2.ag.sub (fun j _ hj=>by omega))
    have HF:=Lib.hid (uZ HX.out hr2 rfl (HP.out.c.trans hc2) hx2 bM (fun j hj=>hj.1))
    clear hb2 hz bM hc2 hx2 HP hr2
    go_wp2_with fail
    obtain⟨W9,hW,⟨⟨e0,e1,e2,e3⟩,m0,m1,m2,m3⟩,hre,bZ,eu⟩:=HF.out
    have HW:=Lib.hid hW
    clear hW HF
    rw[←HW.out]
    refine bodyPost_ret (v:=.agg #[.int .i64 a'.kind,.slice o4 a'.names.length q4,.slice o5 a'.ends.length q5,.slice o6 a'.parts.length q6]) (by simp[results,Tryz.results123,go_sem,e0,e1,e2,e3,m0,m1,m2,m3]) rfl ⟨hre,bZ,eu⟩
  · have HN := Lib.hid hcnd
    clear hpo hcnd
    go_wp2_with fail
    refine(nS p ki d U V hV wv tv rv ti ri _ HP.out.x).mono ?_
    rintro x w2 ⟨rfl,hb2'⟩
    have hc2:=Ch.of (p:=p) hb2'
    have hx2:=HP.out.x.moved hb2'
    clear hb2'
    rw[decide_eq_true HN.out]
    have hb2:=(hc2.block _ (lt_of_some HP.out.hb) (fun e=>hpb e.symm)).trans HP.out.hb
    have hblt:=lt_of_some hb2
    obtain⟨z0,z1,z2,z3,hz⟩:=HP.out.hr
    have hr2:=(hc2.block _ (lt_of_some hz) (by omega)).trans hz
    have je:=lt_of_some hr2
    have hbr:¬w1.heap.size=w.heap.size:=by omega
    obtain⟨⟨d0,d1,d2,d3⟩,g0,g1,g2,g3⟩:=aS hb2
    have bM:=HP.out.kp.to (hc2.ag.sub (fun j _ hj=>by omega))
    have HK:=Lib.hid bM
    have HC:=Lib.hid (HP.out.c.trans hc2)
    have fD:=Lib.hid hx2
    have HR2:=Lib.hid hr2
    have HB2:=Lib.hid hb2
    have oZ:=Lib.hid gU
    have lG:¬w2.heap.size=w1.heap.size:=by omega
    clear hb2 hz bM hc2 hx2 hr2 HP gU
    have gq:=Lib.hid hpp
    have zX:=hmono _ _ _ hpp
    clear hpp
    go_wp2_with fail
    go_region_law
     (go_simp;go_at_call 143;refine(HT.out _ _ _ _ gq.out (fD.out.moved (by repeat (first|exact Below.refl _ _|refine Below.drew ?_)))).mono ?_;rintro x w5 ⟨⟨n5,e5,l5,rfl,hk5⟩,aK,hx5⟩;obtain⟨⟨o7,q7,rfl⟩,⟨o8,q8,rfl⟩,⟨o9,q9,rfl⟩⟩:=hk5.here.form;have hb5:=(aK.block _ hblt (fun e=>hpb e.symm)).trans HB2.out;obtain⟨⟨e0,e1,e2,e3⟩,m0,m1,m2,m3⟩:=aS hb5;have jw:w1.heap.size<w5.heap.size:=Nat.lt_of_lt_of_le hblt (show w2.heap.size≤w5.heap.size from aK.size);have sQ:¬w5.heap.size=w1.heap.size:=(fun e=>absurd jw (e▸Nat.lt_irrefl _));have sS:¬w1.heap.size=w5.heap.size:=(fun e=>absurd jw (e▸Nat.lt_irrefl _)))
    all_goals (
     have jO:=(aK.block _ je (fun e=>by omega)).trans HR2.out
     have jy:=HK.out.to (((Ag.refl _ w2).drew).trans (aK.ag.sub (fun j _ hj=>by omega)))
     have jP:=Lib.hid (QI.two (b':=nb) (n5':=w2.heap.size) 5 HX.out (HC.out.trans (Ch.trans (Ch.of (Below.refl _ _).drew) aK)) hx5 hb5 jO jy (hk5.sub (fun j _ hj=>hj)) (by omega) (Nat.le_refl _) (by omega) hblt)
     have hkl:=hx5.le
     clear hb5 jO jy e0 e1 e2 e3 m0 m1 m2 m3 d0 d1 d2 d3 g0 g1 g2 g3 aK hx5 hk5
     try go_wp2_with fail
     go_roundg (U.length-kj)
     case measure=>omega
     case rel=>exact⟨.mk 5 [] [] [a',nb],kj,none,none,some ⟨w5.heap.size,0,none⟩,0,0,2,by omega,jP.out,oZ.out⟩)
end Go.Proofs.YtfkmajjgkdjncaaGreatDoor

set_option maxHeartbeats 4000000
set_option maxRecDepth 100000
namespace Go.Proofs.YtfkmajjgkdjncaaGreatDoor
open Go.RowKit De Wd
theorem u6 (p k d j:Nat) (U:List Uw) (V:Pm.Ws) (hV:iq V U) (wv tv rv ti ri:Value) (ns:List ByteArray) (w:World) (h:PI w p U k d wv tv rv ti ri) (h1:Pm.sg V k 123) (hn:Pm.ny V (k+1) ns j) (h2:Pm.sg V j 125) :
 Calls Tryz.prog 94 #[.pointer (some ⟨p,0,none⟩)] w fun x w'=>∃v,x=.returned v∧w'.ownsRow w.heap.size 9 1 v ns.length (strs ns)∧Ch w w' p∧PI w' p U (j+1) d wv tv rv ti ri:=by
 obtain⟨q1,hq1⟩:=hV.at h.le
 have ht1:tst 3 ⟨#[123]⟩ q1=true:=by rw[cZ hV hq1 123];exact decide_eq_true h1
 have kR:=Lib.hid hq1
 have Kg:=Lib.hid ht1
 clear hq1 ht1
 have dw:=h.lt
 have HP:=Lib.hid h
 have HN:=Lib.hid hn
 have HH2:=Lib.hid h2
 clear h h1 hn h2
 go_enter Tryz.func94,Tryz.ntmps94
 go_wp2_with fail
 refine(aH 3 ⟨#[123]⟩ _).mono ?_
 rintro x Co ⟨b11,yP,rfl,hbx,hbt⟩
 have HT1:=Lib.hid (And.intro (HP.out.moved hbt) (And.intro hbx hbt))
 clear hbx hbt
 go_wp2_with fail
 refine(kL p k d U wv tv rv ti ri 3 ⟨#[123]⟩ b11 yP q1 _ (by decide) HT1.out.1 kR.out HT1.out.2.1 ?_ ?_ Kg.out).mono ?_
 · intro e;have h1:=HT1.out.1.hh;rw[←e,HT1.out.2.1.h1] at h1;cases h1
 · intro e;have h1:=HT1.out.1.hh;rw[←e,HT1.out.2.1.h2] at h1;cases h1
 rintro x w1 ⟨rfl,hc1,hx1⟩
 replace hc1:=(Ch.of (p:=p) HT1.out.2.2).trans hc1
 have H1:=Lib.hid (And.intro hx1 hc1)
 have hs1:w.heap.size≤w1.heap.size:=hc1.size
 clear hx1 hc1
 go_wp2_with fail
 refine(wY p (k+1) d j U V hV wv tv rv ti ri ns _ H1.out.1 HN.out).mono ?_
 rintro x w2 ⟨v,rfl,ho2,hc2,hx2⟩
 obtain⟨q3,hq3⟩:=hV.at hx2.le
 have ht3:tst 3 ⟨#[125]⟩ q3=true:=by rw[cZ hV hq3 125];exact decide_eq_true HH2.out
 have jJ:=Lib.hid hq3
 have Cu:=Lib.hid ht3
 clear hq3 ht3
 obtain⟨o2,c2,rfl⟩:=au ho2
 have H2:=Lib.hid (And.intro hx2 (And.intro (H1.out.2.trans hc2) (ji ho2 hs1)))
 clear hx2 hc2 ho2
 go_wp2_with fail
 refine(aH 3 ⟨#[125]⟩ _).mono ?_
 rintro x vg ⟨b13,kD,rfl,hbx,hbt⟩
 have HT3:=Lib.hid (And.intro (H2.out.1.moved hbt) (And.intro hbx hbt))
 clear hbx hbt
 go_wp2_with fail
 refine(kL p j d U wv tv rv ti ri 3 ⟨#[125]⟩ b13 kD q3 _ (by decide) HT3.out.1 jJ.out HT3.out.2.1 ?_ ?_ Cu.out).mono ?_
 · intro e;have h1:=HT3.out.1.hh;rw[←e,HT3.out.2.1.h1] at h1;cases h1
 · intro e;have h1:=HT3.out.1.hh;rw[←e,HT3.out.2.1.h2] at h1;cases h1
 rintro x w3 ⟨rfl,hc3,hx3⟩
 replace hc3:=(Ch.of (p:=p) HT3.out.2.2).trans hc3
 have ho3:=dU H2.out.2.2 hc3.ag (fun j e=>by have:=(H2.out.2.2.lt j e).1;omega)
 have H3:=Lib.hid (And.intro hx3 (And.intro (H2.out.2.1.trans hc3) ho3))
 clear hx3 hc3 ho3
 go_wp2_with fail
 go_ret
 exact⟨_,rfl,H3.out.2.2,H3.out.2.1,H3.out.1⟩
end Go.Proofs.YtfkmajjgkdjncaaGreatDoor

set_option maxHeartbeats 4000000
set_option maxRecDepth 100000
namespace Go.Proofs.YtfkmajjgkdjncaaGreatDoor
open Go.RowKit De Wd
theorem Iq (w:World) (k:Int):bU w (.mk k [] [] []) (.slice none 0 0) (.slice none 0 0) (.slice none 0 0):=
 .mk k [] [] [] _ _ _ [] (row_zero _ _ _ rfl) (row_zero _ _ _ rfl) (row_zero _ _ _ rfl) rfl (fun i c p h=>by simp at h) (fun i c p h=>by simp at h)
theorem QI.store {w w5:World} {p b r N k0 d0 k1 d:Nat} {U:List Uw} {wv tv rv ti ri dz dA dB dD x0 x1 x2 x3 y0 y1 y2 y3 nv ev lv:Value} {e:PT}
 (h0:PI w p U k0 d0 wv dz dA dB dD) (hc:Ch w w5 p) (hx:PI w5 p U k1 d wv tv rv ti ri)
 (hb:w5.heap[b]? = some (.cells #[x0,x1,x2,x3] 58 (0,0))) (hr:w5.heap[r]? = some (.cells #[y0,y1,y2,y3] 58 (0,0)))
 (ke:KP (fun j=>N≤j) w5 (fun w2=>bU w2 e nv ev lv)) (hwb:w.heap.size≤b) (hwr:w.heap.size≤r) (hrb:r<b) (hbn:b<N) :
 QI w ((((w5.setCell ⟨b,0,none⟩ (.int .i64 e.kind)).setCell ⟨b,1,none⟩ nv).setCell ⟨b,2,none⟩ ev).setCell ⟨b,3,none⟩ lv) p b r U d k1 wv tv rv ti ri e nv ev lv:=by
 refine⟨h0.aL (h0.aL (h0.aL (h0.aL hx hwb) hwb) hwb) hwb,(((hc.aN hwb).aN hwb).aN hwb).aN hwb,zo _ _ _ _ hb,⟨y0,y1,y2,y3,?_⟩,?_⟩
 · rw[Below.heap_setCell _ _ _ _ (by simp;omega),Below.heap_setCell _ _ _ _ (by simp;omega),Below.heap_setCell _ _ _ _ (by simp;omega),Below.heap_setCell _ _ _ _ (by simp;omega)];exact hr
 · refine (ke.to (((((Ag.refl _ _).setCell (fun h => ?_) _).setCell (fun h => ?_) _).setCell (fun h => ?_) _).setCell (fun h => ?_) _)).sub (fun j _ hj => ⟨by omega, by omega⟩)
   all_goals exact Nat.lt_irrefl _ (Nat.lt_of_lt_of_le hbn h)
theorem lK (p k d k1:Nat) (U:List Uw) (V:Pm.Ws) (hV:iq V U) (wv tv rv ti ri:Value) (e:PT) (w:World) (h:PI w p U k d wv tv rv ti ri) (h1:Pm.sg V k 40) (hd:d<40) (hnone:Pm.sg V (k+1) 41→e=.mk 1 [] [] []∧k1=k+1) (hk1:Pm.sg V k1 41)
 (hpat:¬Pm.sg V (k+1) 41→∀w,PI w p U (k+1) (d+1) wv tv rv ti ri→Calls Tryz.prog 95 #[.pointer (some ⟨p,0,none⟩)] w fun x w'=>mR w w' e x∧Ch w w' p∧PI w' p U k1 (d+1) wv tv rv ti ri) :
 Calls Tryz.prog 183 #[.pointer (some ⟨p,0,none⟩)] w fun x w'=>mR w w' e x∧Ch w w' p∧PI w' p U (k1+1) d wv tv rv ti ri:=by
 have dw:=h.lt
 obtain⟨b,hb0⟩:∃b,b=w.heap.size+1:=⟨_,rfl⟩
 have HX:=Lib.hid h
 obtain⟨W0,hW0⟩:∃W0,W0=(w.alloc (.cells #[.int .i64 0,.slice none 0 0,.slice none 0 0,.slice none 0 0] 58)).alloc (.cells #[.int .i64 1,.slice none 0 0,.slice none 0 0,.slice none 0 0] 58):=⟨_,rfl⟩
 have hbel:Below w.heap.size w W0:=by rw[hW0];exact ah (ah (Below.refl _ _) _) _
 have hx0:=h.moved hbel
 have Hy:W0.heap[b]? = some (.cells #[.int .i64 1,.slice none 0 0,.slice none 0 0,.slice none 0 0] 58 (0,0)):=by rw[hW0,hb0];have:=heap_alloc_new (w.alloc (.cells #[.int .i64 0,.slice none 0 0,.slice none 0 0,.slice none 0 0] 58)) (.cells #[.int .i64 1,.slice none 0 0,.slice none 0 0,.slice none 0 0] 58);simpa using this
 have Ia:W0.heap[w.heap.size]? = some (.cells #[.int .i64 0,.slice none 0 0,.slice none 0 0,.slice none 0 0] 58 (0,0)):=by rw[hW0,Below.heap_alloc _ _ _ (by simp)];exact heap_alloc_new w _
 have yQ:=Lib.hid hpat
 have Ct:=Lib.hid hnone
 have HS:=Lib.hid (And.intro h1 hk1)
 have H0:=Lib.hid (And.intro hx0 (And.intro Hy (And.intro Ia hbel)))
 have HW0:=Lib.hid hW0
 clear h hnone h1 hk1 hpat hx0 Hy Ia hbel hW0
 go_enter Tryz.func183,Tryz.ntmps183
 go_wp2_with (with_reducible rw[←HW0.out])
 simp only[←hb0]
 have hbg:w.heap.size<b:=by omega
 have hbl:b≤w.heap.size+1:=by omega
 clear hb0
 refine(Em p k d U V hV wv tv rv ti ri 40 _ H0.out.1 HS.out.1 hd).mono ?_
 rintro x w1 ⟨rfl,hc1,hx1⟩
 have hpb:p≠b:=by omega
 obtain⟨q2,hq2⟩:=hV.at hx1.le
 have hsg:=cZ hV hq2 41
 have H1:=Lib.hid (And.intro hx1 (And.intro ((hc1.block _ (lt_of_some H0.out.2.1) (by omega)).trans H0.out.2.1) (And.intro ((hc1.block _ (lt_of_some H0.out.2.2.1) (by omega)).trans H0.out.2.2.1) ((Ch.of H0.out.2.2.2).trans hc1))))
 have gM:=Lib.hid hq2
 clear hx1 hc1 hq2
 go_wp2_with fail
 refine(iD p (k+1) (d+1) U wv tv rv ti ri ⟨#[41]⟩ q2 _ H1.out.1 gM.out).mono ?_
 rintro x w2 ⟨rfl,hb2⟩
 by_cases hcase:Pm.sg V (k+1) 41
 · rw [decide_eq_true (show Pm.sg V (k + 1) ((41 : UInt8).toNat : Int) from hcase)] at hsg
   rw[hsg]
   clear hsg yQ
   obtain⟨rfl,rfl⟩:=Ct.out hcase
   have jK:=Lib.hid (show QI w w2 p b w.heap.size U (d+1) (k+1) wv tv rv ti ri (.mk 1 [] [] []) (.slice none 0 0) (.slice none 0 0) (.slice none 0 0) from⟨H1.out.1.moved hb2,H1.out.2.2.2.trans (Ch.of hb2),(hb2.block _ (lt_of_some H1.out.2.1)).trans H1.out.2.1,⟨_,_,_,_,(hb2.block _ (lt_of_some H1.out.2.2.1)).trans H1.out.2.2.1⟩,fun w' _=>Iq w' 1⟩)
   clear hb2 hcase
   obtain⟨q3,hq3⟩:=hV.at jK.out.x.le
   have ht3:tst 3 ⟨#[41]⟩ q3=true:=by rw[cZ hV hq3 41];exact decide_eq_true HS.out.2
   have jJ:=Lib.hid hq3
   have Cu:=Lib.hid ht3
   clear hq3 ht3
   go_wp2_with fail
   refine(yT p (k+1) d U V hV wv tv rv ti ri 41 _ jK.out.x (by have:=Cu.out;rw[cZ hV jJ.out 41] at this;exact of_decide_eq_true this) hd).mono ?_
   rintro x w3 ⟨rfl,hc3,hx3⟩
   have hbr:¬b=w.heap.size:=by omega
   have hb3:=(hc3.block _ (lt_of_some jK.out.hb) (fun e=>hpb e.symm)).trans jK.out.hb
   obtain⟨z0,z1,z2,z3,hz⟩:=jK.out.hr
   have hr3:=(hc3.block _ (lt_of_some hz) (by omega)).trans hz
   obtain⟨⟨d0,d1,d2,d3⟩,g0,g1,g2,g3⟩:=aS hb3
   obtain⟨⟨r0,r1,r2,r3⟩,x0,x1,x2,x3⟩:=aS hr3
   have hkp3:=jK.out.kp.to (hc3.ag.sub (fun j _ hj=>by omega))
   have HF:=Lib.hid (uZ HX.out hr3 rfl (jK.out.c.trans hc3) hx3 hkp3 (fun j hj=>hj.1))
   clear hb3 hz hkp3 hc3 hx3 hr3
   go_wp2_with fail
   obtain⟨W9,hW,⟨⟨e0,e1,e2,e3⟩,m0,m1,m2,m3⟩,hre,bZ,eu⟩:=HF.out
   have HW:=Lib.hid hW
   clear hW HF
   try rw[←HW.out]
   refine bodyPost_ret (v:=.agg #[.int .i64 (PT.mk 1 [] [] []).kind,.slice none 0 0,.slice none 0 0,.slice none 0 0]) (by simp[results,Tryz.results183,go_sem,e0,e1,e2,e3,m0,m1,m2,m3]) rfl ⟨hre,bZ,eu⟩
 · rw [decide_eq_false (show ¬ Pm.sg V (k + 1) ((41 : UInt8).toNat : Int) from hcase)] at hsg
   rw[hsg]
   clear hsg Ct
   have HC:=Lib.hid hcase
   have H2:=Lib.hid (And.intro (H1.out.1.moved hb2) (And.intro ((hb2.block _ (lt_of_some H1.out.2.1)).trans H1.out.2.1) (And.intro ((hb2.block _ (lt_of_some H1.out.2.2.1)).trans H1.out.2.2.1) (H1.out.2.2.2.trans (Ch.of hb2)))))
   have pE:b<w2.heap.size:=lt_of_some H2.out.2.1
   clear hb2 hcase
   go_wp2_with fail
   refine(yQ.out HC.out _ H2.out.1).mono ?_
   rintro x w5 ⟨⟨n5,e5,l5,rfl,hk5⟩,aK,hx5⟩
   obtain⟨⟨o7,q7,rfl⟩,⟨o8,q8,rfl⟩,⟨o9,q9,rfl⟩⟩:=hk5.here.form
   have hb5:=(aK.block _ pE (by omega)).trans H2.out.2.1
   have jO:=(aK.block _ (by omega) (by omega)).trans H2.out.2.2.1
   obtain⟨⟨d0,d1,d2,d3⟩,g0,g1,g2,g3⟩:=aS hb5
   have hqi:=QI.store HX.out (H2.out.2.2.2.trans aK) hx5 hb5 jO hk5 (by omega) (Nat.le_refl _) (by omega) pE
   obtain⟨W6,bA⟩:∃W6,W6=(((w5.setCell ⟨b,0,none⟩ (.int .i64 e.kind)).setCell ⟨b,1,none⟩ (.slice o7 e.names.length q7)).setCell ⟨b,2,none⟩ (.slice o8 e.ends.length q8)).setCell ⟨b,3,none⟩ (.slice o9 e.parts.length q9):=⟨_,rfl⟩
   rw[←bA] at hqi
   have jK:=Lib.hid hqi
   have kH:=Lib.hid bA
   clear hqi bA hb5 jO aK hx5 hk5
   go_wp2_with (with_reducible rw[←kH.out])
   clear d0 d1 d2 d3 g0 g1 g2 g3
   obtain⟨q3,hq3⟩:=hV.at jK.out.x.le
   have ht3:tst 3 ⟨#[41]⟩ q3=true:=by rw[cZ hV hq3 41];exact decide_eq_true HS.out.2
   have jJ:=Lib.hid hq3
   have Cu:=Lib.hid ht3
   clear hq3 ht3
   go_wp2_with fail
   refine(yT p k1 d U V hV wv tv rv ti ri 41 _ jK.out.x (by have:=Cu.out;rw[cZ hV jJ.out 41] at this;exact of_decide_eq_true this) hd).mono ?_
   rintro x w3 ⟨rfl,hc3,hx3⟩
   have hbr:¬b=w.heap.size:=by omega
   have hb3:=(hc3.block _ (lt_of_some jK.out.hb) (fun e=>hpb e.symm)).trans jK.out.hb
   obtain⟨z0,z1,z2,z3,hz⟩:=jK.out.hr
   have hr3:=(hc3.block _ (lt_of_some hz) (by omega)).trans hz
   obtain⟨⟨d0,d1,d2,d3⟩,g0,g1,g2,g3⟩:=aS hb3
   obtain⟨⟨r0,r1,r2,r3⟩,x0,x1,x2,x3⟩:=aS hr3
   have hkp3:=jK.out.kp.to (hc3.ag.sub (fun j _ hj=>by omega))
   have HF:=Lib.hid (uZ HX.out hr3 rfl (jK.out.c.trans hc3) hx3 hkp3 (fun j hj=>hj.1))
   clear hb3 hz hkp3 hc3 hx3 hr3
   go_wp2_with fail
   obtain⟨W9,hW,⟨⟨e0,e1,e2,e3⟩,m0,m1,m2,m3⟩,hre,bZ,eu⟩:=HF.out
   have HW:=Lib.hid hW
   clear hW HF
   try rw[←HW.out]
   refine bodyPost_ret (v:=.agg #[.int .i64 e.kind,.slice o7 e.names.length q7,.slice o8 e.ends.length q8,.slice o9 e.parts.length q9]) (by simp[results,Tryz.results183,go_sem,e0,e1,e2,e3,m0,m1,m2,m3]) rfl ⟨hre,bZ,eu⟩
end Go.Proofs.YtfkmajjgkdjncaaGreatDoor

set_option maxHeartbeats 4000000
set_option maxRecDepth 100000
namespace Go.Proofs.YtfkmajjgkdjncaaGreatDoor
open Go.RowKit De Wd
theorem RJ {w:World} {k:Int} {ns es:List ByteArray} {a:PT} {v v2 n1 e1 l1:Value} {q:Nat} {t:TypeId} (hn:Row w v ns.length (strs ns)) (he:Row w v2 es.length (strs es)) (hq:w.heap[q]? = some (.cells #[.int .i64 a.kind,n1,e1,l1] t (0,0))) (ha:bU w a n1 e1 l1) :
 bU w (.mk k ns es [a]) v v2 (.slice (some ⟨q,0,none⟩) 1 1):=by
 refine .mk k ns es [a] _ _ _ [(a.kind,n1,e1,l1)] hn he ⟨_,1,rfl,Nat.le_refl _,by show(1:Nat)≤_;decide,.inr ⟨q,0,rfl,lt_of_some hq,?_⟩⟩ rfl ?_ ?_
 · intro j u hu
   unfold World.cell?
   rw[show(⟨q,0+j,none⟩:Addr).block=q from rfl,hq]
   match j,hu with
   | 0,h=>simpa [iC] using h
   | 1,h=>simpa [iC] using h
   | 2,h=>simpa [iC] using h
   | 3,h=>simpa [iC] using h
   | j+4,h=>simp[iC] at h
 · intro i e p he hp
   match i,he,hp with
   | 0,he,hp=>cases he;cases hp;rfl
   | i+1,he,hp=>simp at he
 · intro i e p he hp
   match i,he,hp with
   | 0,he,hp=>cases he;cases hp;exact ha
   | i+1,he,hp=>simp at he
theorem Xb {w:World} {k:Int} {ns:List ByteArray} {v:Value} (hn:Row w v ns.length (strs ns)):bU w (.mk k ns [] []) v (.slice none 0 0) (.slice none 0 0):=
 .mk k ns [] [] _ _ _ [] hn (row_zero _ _ _ rfl) (row_zero _ _ _ rfl) rfl (fun i c p h=>by simp at h) (fun i c p h=>by simp at h)
theorem Dm {w : World} {base r b n : Nat} {e : TypeId} {size : Nat} {v : Value} {xs : List Value} (ho : w.ownsRow base e size v n xs) (hr : r < base) (hb : w.heap.size ≤ b) : KP (fun j => r < j ∧ j ≠ b) w (fun w' => Row w' v n xs) :=
 fun w' hag=>Row.owned (dU ho hag (fun j e=>by have:=ho.lt j e;omega))
theorem Ik {w : World} {base r b n : Nat} {e : TypeId} {size : Nat} {v : Value} {xs : List Value} (ho : w.ownsRow base e size v n xs) (hr : r < base) (hb : b < base) : KP (fun j => r < j ∧ j ≠ b) w (fun w' => Row w' v n xs) :=
 fun w' hag=>Row.owned (dU ho hag (fun j e=>by have:=ho.lt j e;omega))
theorem nU {w w':World} {p r b:Nat} {F:World→Prop} (h:KP (fun j=>r<j∧j≠b) w F) (hc:Ch w w' p) (hp:p≤r):KP (fun j=>r<j∧j≠b) w' F:=h.to (hc.ag.sub (fun j _ hj=>by omega))
theorem nP {w:World} {r b i:Nat} {x:Value} {F:World→Prop} (h:KP (fun j=>r<j∧j≠b) w F):KP (fun j=>r<j∧j≠b) (w.setCell ⟨b,i,none⟩ x) F:=h.to ((Ag.refl _ _).setCell (fun h=>h.2 rfl) _)
theorem vU {w:World} {r b:Nat} {o:Obj} {F:World→Prop} (h:KP (fun j=>r<j∧j≠b) w F):KP (fun j=>r<j∧j≠b) (w.alloc o) F:=h.to (Ag.of (ah (Below.refl _ _) o))
structure BI (w W:World) (p b r:Nat) (U:List Uw) (d k:Nat) (wv tv rv ti ri c0 c1 c2 c3:Value):Prop where
 x:PI W p U k d wv tv rv ti ri
 c:Ch w W p
 hb:W.heap[b]? = some (.cells #[c0,c1,c2,c3] 58 (0,0))
 hr:∃c0 c1 c2 c3,W.heap[r]? = some (.cells #[c0,c1,c2,c3] 58 (0,0))
section
variable {w W W':World} {p b r d k d' k' k0 d0:Nat} {U:List Uw} {wv tv rv ti ri c0 c1 c2 c3 dz dA dB dD:Value}
theorem BI.to (h:BI w W p b r U d k wv tv rv ti ri c0 c1 c2 c3) (hc:Ch W W' p) (hx:PI W' p U k' d' wv tv rv ti ri) (hb:b≠p) (hr:r≠p):BI w W' p b r U d' k' wv tv rv ti ri c0 c1 c2 c3:=by
 obtain⟨z0,z1,z2,z3,hz⟩:=h.hr
 exact⟨hx,h.c.trans hc,(hc.block _ (lt_of_some h.hb) hb).trans h.hb,⟨z0,z1,z2,z3,(hc.block _ (lt_of_some hz) hr).trans hz⟩⟩
theorem BI.new (h:BI w W p b r U d k wv tv rv ti ri c0 c1 c2 c3) (o:Obj) (hb:b≠p) (hr:r≠p):BI w (W.alloc o) p b r U d k wv tv rv ti ri c0 c1 c2 c3:=
 h.to (Ch.of (ah (Below.refl _ _) o)) (h.x.moved (ah (Below.refl _ _) o)) hb hr
theorem BI.set2 (h0:PI w p U k0 d0 wv dz dA dB dD) (h:BI w W p b r U d k wv tv rv ti ri c0 c1 c2 c3) (x:Value) (hwb:w.heap.size≤b) (hbr:b≠r):BI w (W.setCell ⟨b,2,none⟩ x) p b r U d k wv tv rv ti ri c0 c1 x c3:=by
 obtain⟨z0,z1,z2,z3,hz⟩:=h.hr
 exact⟨h0.aL h.x hwb,h.c.aN hwb,by have:=h.hb;simp[World.setCell,Array.getElem?_modify,this],⟨z0,z1,z2,z3,by rw[Below.heap_setCell _ _ _ _ (by simpa using fun e=>hbr e.symm)];exact hz⟩⟩
theorem BI.Lr (h0:PI w p U k0 d0 wv dz dA dB dD) (h:BI w W p b r U d k wv tv rv ti ri c0 c1 c2 c3) (x:Value) (hwb:w.heap.size≤b) (hbr:b≠r):BI w (W.setCell ⟨b,3,none⟩ x) p b r U d k wv tv rv ti ri c0 c1 c2 x:=by
 obtain⟨z0,z1,z2,z3,hz⟩:=h.hr
 exact⟨h0.aL h.x hwb,h.c.aN hwb,by have:=h.hb;simp[World.setCell,Array.getElem?_modify,this],⟨z0,z1,z2,z3,by rw[Below.heap_setCell _ _ _ _ (by simpa using fun e=>hbr e.symm)];exact hz⟩⟩
end
theorem Dp (p k d j k1 j2:Nat) (U:List Uw) (V:Pm.Ws) (hV:iq V U) (wv tv rv ti ri:Value) (ns es:List ByteArray) (e:PT) (w:World) (h:PI w p U k d wv tv rv ti ri) (h1:Pm.sg V k 60) (hd:d<40) (hn:Pm.ny V (k+1) ns j) (h2:Pm.sg V j 58) (h3:Pm.sg V k1 58) (hn2:Pm.ny V (k1+1) es j2) (h4:Pm.sg V j2 62)
 (hpat:∀w,PI w p U (j+1) (d+1) wv tv rv ti ri→Calls Tryz.prog 95 #[.pointer (some ⟨p,0,none⟩)] w fun x w'=>mR w w' e x∧Ch w w' p∧PI w' p U k1 (d+1) wv tv rv ti ri) :
 Calls Tryz.prog 182 #[.pointer (some ⟨p,0,none⟩)] w fun x w'=>mR w w' (.mk 3 ns es [e]) x∧Ch w w' p∧PI w' p U (j2+1) d wv tv rv ti ri:=by
 have dw:=h.lt
 have hpr:w.heap.size≠p:=by omega
 have qE:p≤w.heap.size:=by omega
 have hbel:=ah (Below.refl w.heap.size w) (.cells #[.int .i64 0,.slice none 0 0,.slice none 0 0,.slice none 0 0] 58)
 have HX:=Lib.hid h
 have H0:=Lib.hid (And.intro (h.moved hbel) (And.intro (heap_alloc_new w (.cells #[.int .i64 0,.slice none 0 0,.slice none 0 0,.slice none 0 0] 58)) (Ch.of (p:=p) hbel)))
 have yQ:=Lib.hid hpat
 have HS:=Lib.hid (And.intro h1 (And.intro h2 (And.intro h3 h4)))
 have HN:=Lib.hid (And.intro hn hn2)
 clear h h1 hpat hbel hn h2 h3 hn2 h4
 go_enter Tryz.func182,Tryz.ntmps182
 go_wp2_with fail
 refine(Em p k d U V hV wv tv rv ti ri 60 _ H0.out.1 HS.out.1 hd).mono ?_
 rintro x w1 ⟨rfl,hc1,hx1⟩
 have hsz1:w.heap.size<w1.heap.size:=by have:=hc1.size;simp at this;omega
 have H1:=Lib.hid (And.intro hx1 (And.intro ((hc1.block _ (by simp) hpr).trans H0.out.2.1) (H0.out.2.2.trans hc1)))
 clear hx1 hc1
 go_wp2_with fail
 refine(wY p (k+1) (d+1) j U V hV wv tv rv ti ri ns _ H1.out.1 HN.out.1).mono ?_
 rintro x w2 ⟨v,rfl,ho2,hc2,hx2⟩
 obtain⟨o2,q2,rfl⟩:=au ho2
 obtain⟨b,hb0⟩:∃b,b=w2.heap.size:=⟨_,rfl⟩
 have hsz2:=hc2.size
 have hbg:w.heap.size<b:=by omega
 have hbp:b≠p:=by omega
 have hbr:b≠w.heap.size:=by omega
 have hwb:w.heap.size≤b:=by omega
 obtain⟨W2,hW2⟩:∃W2,W2=w2.alloc (.cells #[.int .i64 3,.slice o2 ns.length q2,.slice none 0 0,.slice none 0 0] 58):=⟨_,rfl⟩
 have hbi:BI w W2 p b w.heap.size U (d+1) j wv tv rv ti ri (.int .i64 3) (.slice o2 ns.length q2) (.slice none 0 0) (.slice none 0 0):=by
  have pE:=ah (Below.refl w2.heap.size w2) (.cells #[.int .i64 3,.slice o2 ns.length q2,.slice none 0 0,.slice none 0 0] 58)
  rw[hW2]
  exact⟨hx2.moved pE,(H1.out.2.2.trans hc2).trans (Ch.of pE),by rw[hb0];exact heap_alloc_new w2 _,⟨_,_,_,_,(pE.block _ (by omega)).trans ((hc2.block _ hsz1 hpr).trans H1.out.2.1)⟩⟩
 have hkn : KP (fun j => w.heap.size < j ∧ j ≠ b) W2 (fun w' => Row w' (.slice o2 ns.length q2) ns.length (strs ns)) := by
  rw[hW2];exact vU (Dm ho2 hsz1 (by omega))
 have H2:=Lib.hid (And.intro hbi hkn)
 have HW2:=Lib.hid hW2
 have HB0:=Lib.hid hb0
 obtain⟨q3,hq3⟩:=hV.at hbi.x.le
 have ht3:tst 3 ⟨#[58]⟩ q3=true:=by rw[cZ hV hq3 58];exact decide_eq_true HS.out.2.1
 have jJ:=Lib.hid hq3
 have Cu:=Lib.hid ht3
 clear hq3 ht3
 clear hx2 hc2 ho2 hbi hkn hW2 hb0
 go_wp2_with (with_reducible rw[←HW2.out])
 simp only[←HB0.out]
 refine(aH 3 ⟨#[58]⟩ _).mono ?_
 rintro x vg ⟨b13,kD,rfl,hbx,hbt⟩
 have HT3:=Lib.hid (And.intro (H2.out.1.x.moved hbt) (And.intro hbx hbt))
 clear hbx hbt
 go_wp2_with fail
 refine(kL p j (d+1) U wv tv rv ti ri 3 ⟨#[58]⟩ b13 kD q3 _ (by decide) HT3.out.1 jJ.out HT3.out.2.1 ?_ ?_ Cu.out).mono ?_
 · intro e;have h1:=HT3.out.1.hh;rw[←e,HT3.out.2.1.h1] at h1;cases h1
 · intro e;have h1:=HT3.out.1.hh;rw[←e,HT3.out.2.1.h2] at h1;cases h1
 rintro x w3 ⟨rfl,hc3,hx3⟩
 replace hc3:=(Ch.of (p:=p) HT3.out.2.2).trans hc3
 have H3:=Lib.hid (And.intro (H2.out.1.to hc3 hx3 hbp hpr) (nU H2.out.2 hc3 qE))
 clear hc3 hx3
 go_wp2_with fail
 refine(yQ.out _ H3.out.1.x).mono ?_
 rintro x w5 ⟨⟨n5,e5,l5,rfl,hk5⟩,aK,hx5⟩
 obtain⟨⟨o7,q7,rfl⟩,⟨o8,q8,rfl⟩,⟨o9,q9,rfl⟩⟩:=hk5.here.form
 have hb3:=lt_of_some H3.out.1.hb
 have Zw:=aK.size
 have AJ:=H3.out.1.to aK hx5 hbp hpr
 have Ib:=nU H3.out.2 aK qE
 have Ic:KP (fun j=>w.heap.size<j∧j≠b) w5 (fun w'=>bU w' e (.slice o7 e.names.length q7) (.slice o8 e.ends.length q8) (.slice o9 e.parts.length q9)):=hk5.sub (fun j _ hj=>⟨by omega,by omega⟩)
 obtain⟨⟨d0,d1,d2,d3⟩,g0,g1,g2,g3⟩:=aS AJ.hb
 have H5:=Lib.hid (And.intro AJ (And.intro Ib Ic))
 have sQ:¬w5.heap.size=b:=by omega
 have sS:¬b=w5.heap.size:=by omega
 have Qi:b<w5.heap.size:=by omega
 clear AJ Ib hk5 Ic aK hx5
 obtain⟨q,hq⟩:∃q,q=w5.heap.size:=⟨_,rfl⟩
 obtain⟨W6,bA⟩:∃W6,W6=(w5.setCell ⟨b,3,none⟩ (.slice (some ⟨w5.heap.size,0,none⟩) 1 1)).alloc (.cells #[.int .i64 e.kind,.slice o7 e.names.length q7,.slice o8 e.ends.length q8,.slice o9 e.parts.length q9] 58):=⟨_,rfl⟩
 have wW:BI w W6 p b w.heap.size U (d+1) k1 wv tv rv ti ri (.int .i64 3) (.slice o2 ns.length q2) (.slice none 0 0) (.slice (some ⟨q,0,none⟩) 1 1):=by
  rw[bA,hq];exact(BI.Lr HX.out H5.out.1 _ hwb hbr).new _ hbp hpr
 have Ie : KP (fun j => w.heap.size < j ∧ j ≠ b) W6 (fun w' => Row w' (.slice o2 ns.length q2) ns.length (strs ns)) := by
  rw[bA];exact vU (nP H5.out.2.1)
 have Ig : KP (fun j => w.heap.size < j ∧ j ≠ b) W6 (fun w' => w'.heap[q]? = some (.cells #[.int .i64 e.kind, .slice o7 e.names.length q7, .slice o8 e.ends.length q8, .slice o9 e.parts.length q9] 58 (0, 0)) ∧ bU w' e (.slice o7 e.names.length q7) (.slice o8 e.ends.length q8) (.slice o9 e.parts.length q9)) := by
  rw[bA]
  intro w' hag
  refine⟨KP.block (o:=.cells #[.int .i64 e.kind,.slice o7 e.names.length q7,.slice o8 e.ends.length q8,.slice o9 e.parts.length q9] 58 (0,0)) ?_ ⟨by omega,by omega⟩ w' hag,vU (nP H5.out.2.2) w' hag⟩
  have:=heap_alloc_new (w5.setCell ⟨b,3,none⟩ (.slice (some ⟨w5.heap.size,0,none⟩) 1 1)) (.cells #[.int .i64 e.kind,.slice o7 e.names.length q7,.slice o8 e.ends.length q8,.slice o9 e.parts.length q9] 58)
  rw[hq]
  simpa [World.setCell] using this
 have Zx:b<W6.heap.size:=lt_of_some wW.hb
 have H6:=Lib.hid (And.intro wW (And.intro Ie Ig))
 have kH:=Lib.hid bA
 have WH:=Lib.hid hq
 obtain⟨q5,Ih⟩:=hV.at wW.x.le
 have YH:tst 3 ⟨#[58]⟩ q5=true:=by rw[cZ hV Ih 58];exact decide_eq_true HS.out.2.2.1
 have RH:=Lib.hid Ih
 have WJ:=Lib.hid YH
 clear Ih YH
 clear wW Ie Ig bA hq d0 d1 d2
 go_wp2_with (with_reducible rw[←kH.out])
 simp only[←WH.out]
 clear d3 g0 g1 g2 g3 sQ sS Qi
 refine(aH 3 ⟨#[58]⟩ _).mono ?_
 rintro x wt5 ⟨b15,WI,rfl,hbx,hbt⟩
 have rQ:=Lib.hid (And.intro (H6.out.1.x.moved hbt) (And.intro hbx hbt))
 clear hbx hbt
 go_wp2_with fail
 refine(kL p k1 (d+1) U wv tv rv ti ri 3 ⟨#[58]⟩ b15 WI q5 _ (by decide) rQ.out.1 RH.out rQ.out.2.1 ?_ ?_ WJ.out).mono ?_
 · intro e;have h1:=rQ.out.1.hh;rw[←e,rQ.out.2.1.h1] at h1;cases h1
 · intro e;have h1:=rQ.out.1.hh;rw[←e,rQ.out.2.1.h2] at h1;cases h1
 rintro x w7 ⟨rfl,eF,hx7⟩
 replace eF:=(Ch.of (p:=p) rQ.out.2.2).trans eF
 have Zy:=eF.size
 have H7:=Lib.hid (And.intro (H6.out.1.to eF hx7 hbp hpr) (And.intro (nU H6.out.2.1 eF qE) (nU H6.out.2.2 eF qE)))
 clear eF hx7
 go_wp2_with fail
 refine(wY p (k1+1) (d+1) j2 U V hV wv tv rv ti ri es _ H7.out.1.x HN.out.2).mono ?_
 rintro x w8 ⟨v8,rfl,Ii,hc8,jQ⟩
 obtain⟨o6,q6,rfl⟩:=au Ii
 have AL:=H7.out.1.to hc8 jQ hbp hpr
 have Ij:=Ik (r:=w.heap.size) (b:=b) Ii (by omega) (by omega)
 obtain⟨⟨d0,d1,d2,d3⟩,g0,g1,g2,g3⟩:=aS AL.hb
 obtain⟨W9,bP⟩:∃W9,W9=w8.setCell ⟨b,2,none⟩ (.slice o6 es.length q6):=⟨_,rfl⟩
 have qF:=BI.set2 HX.out AL (.slice o6 es.length q6) hwb hbr
 have Il : KP (fun j => w.heap.size < j ∧ j ≠ b) W9 (fun w' => bU w' (.mk 3 ns es [e]) (.slice o2 ns.length q2) (.slice o6 es.length q6) (.slice (some ⟨q, 0, none⟩) 1 1)) := by
  rw[bP]
  intro w' hag
  have h9:=nP (nU H7.out.2.2 hc8 qE) w' hag
  exact RJ (nP (nU H7.out.2.1 hc8 qE) w' hag) (nP Ij w' hag) h9.1 h9.2
 rw[←bP] at qF
 have jK:=Lib.hid (show QI w W9 p b w.heap.size U (d+1) j2 wv tv rv ti ri (.mk 3 ns es [e]) (.slice o2 ns.length q2) (.slice o6 es.length q6) (.slice (some ⟨q,0,none⟩) 1 1) from⟨qF.x,qF.c,qF.hb,qF.hr,Il⟩)
 have uf:=Lib.hid bP
 have hpb:p≠b:=fun e=>hbp e.symm
 clear AL qF Il Ij Ii hc8 jQ bP
 go_wp2_with (with_reducible rw[←uf.out])
 clear d0 d1 d2 d3 g0 g1 g2 g3
 obtain⟨q10,Qq⟩:=hV.at jK.out.x.le
 have Xc:tst 3 ⟨#[62]⟩ q10=true:=by rw[cZ hV Qq 62];exact decide_eq_true HS.out.2.2.2
 have ZC:=Lib.hid Qq
 have ZE:=Lib.hid Xc
 clear Qq Xc
 go_wp2_with fail
 refine(yT p j2 d U V hV wv tv rv ti ri 62 _ jK.out.x (by have:=ZE.out;rw[cZ hV ZC.out 62] at this;exact of_decide_eq_true this) hd).mono ?_
 rintro x QN ⟨rfl,Dn,Qj⟩
 have abr:¬b=w.heap.size:=by omega
 have Ai:=(Dn.block _ (lt_of_some jK.out.hb) (fun e=>hpb e.symm)).trans jK.out.hb
 obtain⟨z0,z1,z2,z3,hz⟩:=jK.out.hr
 have Qr:=(Dn.block _ (lt_of_some hz) (by omega)).trans hz
 obtain⟨⟨d0,d1,d2,d3⟩,g0,g1,g2,g3⟩:=aS Ai
 obtain⟨⟨r0,r1,r2,r3⟩,x0,x1,x2,x3⟩:=aS Qr
 have RQ:=jK.out.kp.to (Dn.ag.sub (fun j _ hj=>by omega))
 have HF:=Lib.hid (uZ HX.out Qr rfl (jK.out.c.trans Dn) Qj RQ (fun j hj=>hj.1))
 clear Ai hz RQ Dn Qj Qr
 go_wp2_with fail
 obtain⟨RS,hW,⟨⟨e0,e1,e2,e3⟩,m0,m1,m2,m3⟩,hre,bZ,eu⟩:=HF.out
 have HW:=Lib.hid hW
 clear hW HF
 try rw[←HW.out]
 refine bodyPost_ret (v:=.agg #[.int .i64 (PT.mk 3 ns es [e]).kind,.slice o2 ns.length q2,.slice o6 es.length q6,.slice (some ⟨q,0,none⟩) 1 1]) (by simp[results,Tryz.results182,go_sem,e0,e1,e2,e3,m0,m1,m2,m3]) rfl ⟨hre,bZ,eu⟩
end Go.Proofs.YtfkmajjgkdjncaaGreatDoor

set_option maxHeartbeats 4000000
set_option maxRecDepth 100000
namespace Go.Proofs.YtfkmajjgkdjncaaGreatDoor
open Go.RowKit De Wd
theorem mZ {V : Pm.Ws} {k : Nat} {a b : Int} (h : Pm.sg V k a) (hab : a ≠ b) : ¬ Pm.sg V k b := fun e => by
 unfold Pm.sg at h e
 rw[h] at e
 simp at e
 exact hab e
theorem uo (p k d j:Nat) (U:List Uw) (V:Pm.Ws) (hV:iq V U) (wv tv rv ti ri:Value) (ns:List ByteArray) (w:World) (h:PI w p U k d wv tv rv ti ri) (h1:Pm.sg V k 123) (hn:Pm.ny V (k+1) ns j) (h2:Pm.sg V j 125) :
 Calls Tryz.prog 164 #[.pointer (some ⟨p,0,none⟩)] w fun x w'=>mR w w' (.mk 2 ns [] []) x∧Ch w w' p∧PI w' p U (j+1) d wv tv rv ti ri:=by
 have dw:=h.lt
 have hpr:w.heap.size≠p:=by omega
 have hbel:=ah (Below.refl w.heap.size w) (.cells #[.int .i64 0,.slice none 0 0,.slice none 0 0,.slice none 0 0] 58)
 have HX:=Lib.hid h
 have H0:=Lib.hid (And.intro (h.moved hbel) (And.intro (heap_alloc_new w (.cells #[.int .i64 0,.slice none 0 0,.slice none 0 0,.slice none 0 0] 58)) (Ch.of (p:=p) hbel)))
 clear h hbel
 have HN:=Lib.hid (And.intro h1 (And.intro hn h2))
 clear h1 hn h2
 go_enter Tryz.func164,Tryz.ntmps164
 obtain⟨q1,hq1⟩:=hV.at H0.out.1.le
 have lN:=cZ hV hq1 123
 rw[decide_eq_true (show Pm.sg V k ((123:UInt8).toNat:Int) from HN.out.1)] at lN
 have kR:=Lib.hid hq1
 have HT1:=Lib.hid lN
 clear hq1 lN
 go_wp2_with fail
 refine(iD p k d U wv tv rv ti ri ⟨#[123]⟩ q1 _ H0.out.1 kR.out).mono ?_
 rintro x w1 ⟨rfl,hb1⟩
 rw[HT1.out]
 have H1:=Lib.hid (And.intro (H0.out.1.moved hb1) (And.intro ((hb1.block _ (lt_of_some H0.out.2.1)).trans H0.out.2.1) (H0.out.2.2.trans (Ch.of hb1))))
 clear hb1
 have hlt1:=lt_of_some H1.out.2.1
 go_wp2_with fail
 refine(u6 p k d j U V hV wv tv rv ti ri ns _ H1.out.1 HN.out.1 HN.out.2.1 HN.out.2.2).mono ?_
 rintro x w2 ⟨v,rfl,ho2,hc2,hx2⟩
 obtain⟨o2,q2,rfl⟩:=au ho2
 have hr2:=(hc2.block _ hlt1 hpr).trans H1.out.2.1
 have hk2:KP (fun j=>w.heap.size<j∧j≠w2.heap.size) w2 (fun w'=>bU w' (.mk 2 ns [] []) (.slice o2 ns.length q2) (.slice none 0 0) (.slice none 0 0)):=fun w' hag=>Xb (Dm ho2 hlt1 (Nat.le_refl _) w' hag)
 obtain⟨⟨r0,r1,r2,r3⟩,x0,x1,x2,x3⟩:=aS hr2
 have HF:=Lib.hid (uZ HX.out hr2 rfl (H1.out.2.2.trans hc2) hx2 hk2 (fun j hj=>by omega))
 go_wp2_with fail
 obtain⟨RS,hW,⟨⟨e0,e1,e2,e3⟩,m0,m1,m2,m3⟩,hre,bZ,eu⟩:=HF.out
 dsimp only[PT.kind] at hW hre e0
 have HW:=Lib.hid hW
 clear hW HF
 try rw[←HW.out]
 refine bodyPost_ret (v:=.agg #[.int .i64 2,.slice o2 ns.length q2,.slice none 0 0,.slice none 0 0]) (by simp[results,Tryz.results164,go_sem,e0,e1,e2,e3,m0,m1,m2,m3]) rfl ⟨hre,bZ,eu⟩
theorem rF (p k d:Nat) (U:List Uw) (V:Pm.Ws) (hV:iq V U) (wv tv rv ti ri:Value) (w:World) (h:PI w p U k d wv tv rv ti ri) (h1:Pm.sg V k 95) :
 Calls Tryz.prog 164 #[.pointer (some ⟨p,0,none⟩)] w fun x w'=>mR w w' (.mk 4 [] [] []) x∧Ch w w' p∧PI w' p U (k+1) d wv tv rv ti ri:=by
 have dw:=h.lt
 have hpr:w.heap.size≠p:=by omega
 have hbel:=ah (Below.refl w.heap.size w) (.cells #[.int .i64 0,.slice none 0 0,.slice none 0 0,.slice none 0 0] 58)
 have HX:=Lib.hid h
 have H0:=Lib.hid (And.intro (h.moved hbel) (And.intro (heap_alloc_new w (.cells #[.int .i64 0,.slice none 0 0,.slice none 0 0,.slice none 0 0] 58)) (Ch.of (p:=p) hbel)))
 clear h hbel
 have HN:=Lib.hid h1
 clear h1
 go_enter Tryz.func164,Tryz.ntmps164
 obtain⟨q1,hq1⟩:=hV.at H0.out.1.le
 have lN:=cZ hV hq1 123
 rw[decide_eq_false (show ¬Pm.sg V k ((123:UInt8).toNat:Int) from mZ HN.out (by decide))] at lN
 have kR:=Lib.hid hq1
 have HT1:=Lib.hid lN
 clear hq1 lN
 go_wp2_with fail
 refine(iD p k d U wv tv rv ti ri ⟨#[123]⟩ q1 _ H0.out.1 kR.out).mono ?_
 rintro x w1 ⟨rfl,hb1⟩
 rw[HT1.out]
 have H1:=Lib.hid (And.intro (H0.out.1.moved hb1) (And.intro ((hb1.block _ (lt_of_some H0.out.2.1)).trans H0.out.2.1) (H0.out.2.2.trans (Ch.of hb1))))
 clear hb1
 obtain⟨q2,hq2⟩:=hV.at H1.out.1.le
 have bG:=cZ hV hq2 95
 rw[decide_eq_true (show Pm.sg V k ((95:UInt8).toNat:Int) from HN.out)] at bG
 have gM:=Lib.hid hq2
 have HT2:=Lib.hid bG
 clear hq2 bG
 go_wp2_with fail
 refine(aH 3 ⟨#[95]⟩ _).mono ?_
 rintro x lQ ⟨b12,iQ,rfl,hbx,hbt⟩
 have aF:=Lib.hid (And.intro (H1.out.1.moved hbt) (And.intro hbx hbt))
 clear hbx hbt
 go_wp2_with fail
 refine(bV p k d U wv tv rv ti ri 3 ⟨#[95]⟩ b12 iQ q2 _ (by decide) aF.out.1 gM.out aF.out.2.1 ?_ ?_).mono ?_
 · intro e;have h1:=aF.out.1.hh;rw[←e,aF.out.2.1.h1] at h1;cases h1
 · intro e;have h1:=aF.out.1.hh;rw[←e,aF.out.2.1.h2] at h1;cases h1
 rintro x w2 ⟨rfl,hc2,hx2⟩
 replace hc2:=(Ch.of (p:=p) aF.out.2.2).trans hc2
 rw[HT2.out] at hx2 ⊢
 rw[if_pos rfl] at hx2
 have H2:=Lib.hid (And.intro hx2 (And.intro ((hc2.block _ (lt_of_some H1.out.2.1) hpr).trans H1.out.2.1) (H1.out.2.2.trans hc2)))
 clear hx2 hc2
 have hr2:=H2.out.2.1
 obtain⟨⟨r0,r1,r2,r3⟩,x0,x1,x2,x3⟩:=aS hr2
 have HF:=Lib.hid (uZ HX.out hr2 rfl H2.out.2.2 H2.out.1 (show KP (fun j=>w.heap.size<j) w2 (fun w'=>bU w' (.mk 4 [] [] []) (.slice none 0 0) (.slice none 0 0) (.slice none 0 0)) from fun w' _=>Iq w' 4) (fun j hj=>by omega))
 go_wp2_with fail
 obtain⟨RS,hW,⟨⟨e0,e1,e2,e3⟩,m0,m1,m2,m3⟩,hre,bZ,eu⟩:=HF.out
 dsimp only[PT.kind] at hW hre e0
 have HW:=Lib.hid hW
 clear hW HF
 try rw[←HW.out]
 refine bodyPost_ret (v:=.agg #[.int .i64 4,.slice none 0 0,.slice none 0 0,.slice none 0 0]) (by simp[results,Tryz.results164,go_sem,e0,e1,e2,e3,m0,m1,m2,m3]) rfl ⟨hre,bZ,eu⟩
theorem uY (p k d k9:Nat) (U:List Uw) (V:Pm.Ws) (hV:iq V U) (wv tv rv ti ri:Value) (e:PT) (w:World) (h:PI w p U k d wv tv rv ti ri) (h1:Pm.sg V k 60)
 (hin:∀w,PI w p U k d wv tv rv ti ri→Calls Tryz.prog 182 #[.pointer (some ⟨p,0,none⟩)] w fun x w'=>mR w w' e x∧Ch w w' p∧PI w' p U k9 d wv tv rv ti ri) :
 Calls Tryz.prog 164 #[.pointer (some ⟨p,0,none⟩)] w fun x w'=>mR w w' (e) x∧Ch w w' p∧PI w' p U (k9) d wv tv rv ti ri:=by
 have dw:=h.lt
 have hpr:w.heap.size≠p:=by omega
 have hbel:=ah (Below.refl w.heap.size w) (.cells #[.int .i64 0,.slice none 0 0,.slice none 0 0,.slice none 0 0] 58)
 have HX:=Lib.hid h
 have H0:=Lib.hid (And.intro (h.moved hbel) (And.intro (heap_alloc_new w (.cells #[.int .i64 0,.slice none 0 0,.slice none 0 0,.slice none 0 0] 58)) (Ch.of (p:=p) hbel)))
 clear h hbel
 have HN:=Lib.hid h1
 have HI:=Lib.hid hin
 clear h1 hin
 go_enter Tryz.func164,Tryz.ntmps164
 obtain⟨q1,hq1⟩:=hV.at H0.out.1.le
 have lN:=cZ hV hq1 123
 rw[decide_eq_false (show ¬Pm.sg V k ((123:UInt8).toNat:Int) from mZ HN.out (by decide))] at lN
 have kR:=Lib.hid hq1
 have HT1:=Lib.hid lN
 clear hq1 lN
 go_wp2_with fail
 refine(iD p k d U wv tv rv ti ri ⟨#[123]⟩ q1 _ H0.out.1 kR.out).mono ?_
 rintro x w1 ⟨rfl,hb1⟩
 rw[HT1.out]
 have H1:=Lib.hid (And.intro (H0.out.1.moved hb1) (And.intro ((hb1.block _ (lt_of_some H0.out.2.1)).trans H0.out.2.1) (H0.out.2.2.trans (Ch.of hb1))))
 clear hb1
 obtain⟨q2,hq2⟩:=hV.at H1.out.1.le
 have bG:=cZ hV hq2 95
 rw[decide_eq_false (show ¬Pm.sg V k ((95:UInt8).toNat:Int) from mZ HN.out (by decide))] at bG
 have gM:=Lib.hid hq2
 have HT2:=Lib.hid bG
 clear hq2 bG
 go_wp2_with fail
 refine(aH 3 ⟨#[95]⟩ _).mono ?_
 rintro x lQ ⟨b12,iQ,rfl,hbx,hbt⟩
 have aF:=Lib.hid (And.intro (H1.out.1.moved hbt) (And.intro hbx hbt))
 clear hbx hbt
 go_wp2_with fail
 refine(bV p k d U wv tv rv ti ri 3 ⟨#[95]⟩ b12 iQ q2 _ (by decide) aF.out.1 gM.out aF.out.2.1 ?_ ?_).mono ?_
 · intro e;have h1:=aF.out.1.hh;rw[←e,aF.out.2.1.h1] at h1;cases h1
 · intro e;have h1:=aF.out.1.hh;rw[←e,aF.out.2.1.h2] at h1;cases h1
 rintro x w2 ⟨rfl,hc2,hx2⟩
 replace hc2:=(Ch.of (p:=p) aF.out.2.2).trans hc2
 rw[HT2.out] at hx2 ⊢
 rw[if_neg (by decide)] at hx2
 have H2:=Lib.hid (And.intro hx2 (And.intro ((hc2.block _ (lt_of_some H1.out.2.1) hpr).trans H1.out.2.1) (H1.out.2.2.trans hc2)))
 clear hx2 hc2
 obtain⟨q3,hq3⟩:=hV.at H2.out.1.le
 have gJ:=cZ hV hq3 60
 rw[decide_eq_true (show Pm.sg V k ((60:UInt8).toNat:Int) from HN.out)] at gJ
 have jJ:=Lib.hid hq3
 have HT3:=Lib.hid gJ
 clear hq3 gJ
 go_wp2_with fail
 refine(iD p k d U wv tv rv ti ri ⟨#[60]⟩ q3 _ H2.out.1 jJ.out).mono ?_
 rintro x w3 ⟨rfl,hb3⟩
 rw[HT3.out]
 have H3:=Lib.hid (And.intro (H2.out.1.moved hb3) (And.intro ((hb3.block _ (lt_of_some H2.out.2.1)).trans H2.out.2.1) (H2.out.2.2.trans (Ch.of hb3))))
 clear hb3
 have Qs:=lt_of_some H3.out.2.1
 go_wp2_with fail
 refine(HI.out _ H3.out.1).mono ?_
 rintro x w4 ⟨⟨n5,e5,l5,rfl,hk4⟩,hc4,hx4⟩
 obtain⟨⟨o7,q7,rfl⟩,⟨o8,q8,rfl⟩,⟨o9,q9,rfl⟩⟩:=hk4.here.form
 have hr4:=(hc4.block _ Qs hpr).trans H3.out.2.1
 obtain⟨⟨r0,r1,r2,r3⟩,x0,x1,x2,x3⟩:=aS hr4
 have HF:=Lib.hid (uZ HX.out hr4 rfl (H3.out.2.2.trans hc4) hx4 hk4 (fun j hj=>by omega))
 go_wp2_with fail
 obtain⟨RS,hW,⟨⟨e0,e1,e2,e3⟩,m0,m1,m2,m3⟩,hre,bZ,eu⟩:=HF.out
 have HW:=Lib.hid hW
 clear hW HF
 try rw[←HW.out]
 refine bodyPost_ret (v:=.agg #[.int .i64 e.kind,.slice o7 e.names.length q7,.slice o8 e.ends.length q8,.slice o9 e.parts.length q9]) (by simp[results,Tryz.results164,go_sem,e0,e1,e2,e3,m0,m1,m2,m3]) rfl ⟨hre,bZ,eu⟩
theorem kK (p k d k9:Nat) (U:List Uw) (V:Pm.Ws) (hV:iq V U) (wv tv rv ti ri:Value) (e:PT) (w:World) (h:PI w p U k d wv tv rv ti ri) (h1:Pm.sg V k 40)
 (hin:∀w,PI w p U k d wv tv rv ti ri→Calls Tryz.prog 183 #[.pointer (some ⟨p,0,none⟩)] w fun x w'=>mR w w' e x∧Ch w w' p∧PI w' p U k9 d wv tv rv ti ri) :
 Calls Tryz.prog 164 #[.pointer (some ⟨p,0,none⟩)] w fun x w'=>mR w w' (e) x∧Ch w w' p∧PI w' p U (k9) d wv tv rv ti ri:=by
 have dw:=h.lt
 have hpr:w.heap.size≠p:=by omega
 have hbel:=ah (Below.refl w.heap.size w) (.cells #[.int .i64 0,.slice none 0 0,.slice none 0 0,.slice none 0 0] 58)
 have HX:=Lib.hid h
 have H0:=Lib.hid (And.intro (h.moved hbel) (And.intro (heap_alloc_new w (.cells #[.int .i64 0,.slice none 0 0,.slice none 0 0,.slice none 0 0] 58)) (Ch.of (p:=p) hbel)))
 clear h hbel
 have HN:=Lib.hid h1
 have HI:=Lib.hid hin
 clear h1 hin
 go_enter Tryz.func164,Tryz.ntmps164
 obtain⟨q1,hq1⟩:=hV.at H0.out.1.le
 have lN:=cZ hV hq1 123
 rw[decide_eq_false (show ¬Pm.sg V k ((123:UInt8).toNat:Int) from mZ HN.out (by decide))] at lN
 have kR:=Lib.hid hq1
 have HT1:=Lib.hid lN
 clear hq1 lN
 go_wp2_with fail
 refine(iD p k d U wv tv rv ti ri ⟨#[123]⟩ q1 _ H0.out.1 kR.out).mono ?_
 rintro x w1 ⟨rfl,hb1⟩
 rw[HT1.out]
 have H1:=Lib.hid (And.intro (H0.out.1.moved hb1) (And.intro ((hb1.block _ (lt_of_some H0.out.2.1)).trans H0.out.2.1) (H0.out.2.2.trans (Ch.of hb1))))
 clear hb1
 obtain⟨q2,hq2⟩:=hV.at H1.out.1.le
 have bG:=cZ hV hq2 95
 rw[decide_eq_false (show ¬Pm.sg V k ((95:UInt8).toNat:Int) from mZ HN.out (by decide))] at bG
 have gM:=Lib.hid hq2
 have HT2:=Lib.hid bG
 clear hq2 bG
 go_wp2_with fail
 refine(aH 3 ⟨#[95]⟩ _).mono ?_
 rintro x lQ ⟨b12,iQ,rfl,hbx,hbt⟩
 have aF:=Lib.hid (And.intro (H1.out.1.moved hbt) (And.intro hbx hbt))
 clear hbx hbt
 go_wp2_with fail
 refine(bV p k d U wv tv rv ti ri 3 ⟨#[95]⟩ b12 iQ q2 _ (by decide) aF.out.1 gM.out aF.out.2.1 ?_ ?_).mono ?_
 · intro e;have h1:=aF.out.1.hh;rw[←e,aF.out.2.1.h1] at h1;cases h1
 · intro e;have h1:=aF.out.1.hh;rw[←e,aF.out.2.1.h2] at h1;cases h1
 rintro x w2 ⟨rfl,hc2,hx2⟩
 replace hc2:=(Ch.of (p:=p) aF.out.2.2).trans hc2
 rw[HT2.out] at hx2 ⊢
 rw[if_neg (by decide)] at hx2
 have H2:=Lib.hid (And.intro hx2 (And.intro ((hc2.block _ (lt_of_some H1.out.2.1) hpr).trans H1.out.2.1) (H1.out.2.2.trans hc2)))
 clear hx2 hc2
 obtain⟨q3,hq3⟩:=hV.at H2.out.1.le
 have gJ:=cZ hV hq3 60
 rw[decide_eq_false (show ¬Pm.sg V k ((60:UInt8).toNat:Int) from mZ HN.out (by decide))] at gJ
 have jJ:=Lib.hid hq3
 have HT3:=Lib.hid gJ
 clear hq3 gJ
 go_wp2_with fail
 refine(iD p k d U wv tv rv ti ri ⟨#[60]⟩ q3 _ H2.out.1 jJ.out).mono ?_
 rintro x w3 ⟨rfl,hb3⟩
 rw[HT3.out]
 have H3:=Lib.hid (And.intro (H2.out.1.moved hb3) (And.intro ((hb3.block _ (lt_of_some H2.out.2.1)).trans H2.out.2.1) (H2.out.2.2.trans (Ch.of hb3))))
 clear hb3
 have Qs:=lt_of_some H3.out.2.1
 go_wp2_with fail
 refine(HI.out _ H3.out.1).mono ?_
 rintro x w4 ⟨⟨n5,e5,l5,rfl,hk4⟩,hc4,hx4⟩
 obtain⟨⟨o7,q7,rfl⟩,⟨o8,q8,rfl⟩,⟨o9,q9,rfl⟩⟩:=hk4.here.form
 have hr4:=(hc4.block _ Qs hpr).trans H3.out.2.1
 obtain⟨⟨r0,r1,r2,r3⟩,x0,x1,x2,x3⟩:=aS hr4
 have HF:=Lib.hid (uZ HX.out hr4 rfl (H3.out.2.2.trans hc4) hx4 hk4 (fun j hj=>by omega))
 go_wp2_with fail
 obtain⟨RS,hW,⟨⟨e0,e1,e2,e3⟩,m0,m1,m2,m3⟩,hre,bZ,eu⟩:=HF.out
 have HW:=Lib.hid hW
 clear hW HF
 try rw[←HW.out]
 refine bodyPost_ret (v:=.agg #[.int .i64 e.kind,.slice o7 e.names.length q7,.slice o8 e.ends.length q8,.slice o9 e.parts.length q9]) (by simp[results,Tryz.results164,go_sem,e0,e1,e2,e3,m0,m1,m2,m3]) rfl ⟨hre,bZ,eu⟩
end Go.Proofs.YtfkmajjgkdjncaaGreatDoor

set_option maxHeartbeats 4000000
set_option maxRecDepth 100000
namespace Go.Proofs.YtfkmajjgkdjncaaGreatDoor
open Go.RowKit De Wd
theorem yS (p k d k1 k2:Nat) (U:List Uw) (V:Pm.Ws) (hV:iq V U) (wv tv rv ti ri:Value) (a e:PT) (w:World) (h:PI w p U k d wv tv rv ti ri) (hl:yR V a k1 e k2)
 (hat:∀w,PI w p U k d wv tv rv ti ri→Calls Tryz.prog 164 #[.pointer (some ⟨p,0,none⟩)] w fun x w'=>mR w w' a x∧Ch w w' p∧PI w' p U k1 d wv tv rv ti ri) :
 Calls Tryz.prog 143 #[.pointer (some ⟨p,0,none⟩)] w fun x w'=>mR w w' e x∧Ch w w' p∧PI w' p U k2 d wv tv rv ti ri:=by
 have hlt:=h.lt
 have hA:=h.moved (ah (Below.refl _ _) (.cells #[.int .i64 0,.slice none 0 0,.slice none 0 0,.slice none 0 0] 58))
 have HX:=Lib.hid h
 have HA:=Lib.hid hA
 have HT:=Lib.hid hat
 have HL:=Lib.hid hl
 clear h hA hat hl
 go_enter Tryz.func143,Tryz.ntmps143
 go_wp2_with fail
 refine(HT.out _ HA.out).mono ?_
 rintro x w1 ⟨⟨nv,ev,lv,rfl,hkp⟩,hch,hxi⟩
 obtain⟨⟨o1,q1,rfl⟩,⟨o2,q2,rfl⟩,⟨o3,q3,rfl⟩⟩:=hkp.here.form
 have hs1:w.heap.size<w1.heap.size:=by have:=hch.size;simp at this;omega
 have hr1:w1.heap[w.heap.size]? = some (.cells #[.int .i64 0,.slice none 0 0,.slice none 0 0,.slice none 0 0] 58 (0,0)):=by rw[hch.block _ (by simp) (by omega)];exact heap_alloc_new w _
 have hpb:p≠w1.heap.size:=by omega
 have gT:=hxi.moved (ah (Below.refl _ _) (.cells #[.int .i64 a.kind,.slice o1 a.names.length q1,.slice o2 a.ends.length q2,.slice o3 a.parts.length q3] 58))
 have hpi:QI w (w1.alloc (.cells #[.int .i64 a.kind,.slice o1 a.names.length q1,.slice o2 a.ends.length q2,.slice o3 a.parts.length q3] 58)) p w1.heap.size w.heap.size U d k1 wv tv rv ti ri a (.slice o1 a.names.length q1) (.slice o2 a.ends.length q2) (.slice o3 a.parts.length q3):=by
  refine⟨gT,?_,heap_alloc_new w1 _,⟨.int .i64 0,.slice none 0 0,.slice none 0 0,.slice none 0 0,?_⟩,?_⟩
  · exact((Ch.of (ah (Below.refl _ _) _)).trans hch).trans (Ch.of (ah (Below.refl _ _) _))
  · rw[(ah (Below.refl w1.heap.size w1) _).block _ hs1];exact hr1
  · intro w' hag
    refine hkp w' ⟨hag.os,hag.tape,hag.output,by have:=hag.size;simp at this;omega,fun j hj hS=>?_⟩
    have hS':w.heap.size+1≤j:=by simpa using hS
    rw[hag.block j (by simp;omega) ⟨by omega,by omega⟩]
    exact(ah (Below.refl w1.heap.size w1) _).block j hj
 have oW:=Lib.hid hpi
 have hle:=hxi.le
 clear hpi gT hxi hch hkp hr1
 go_wp2_with fail
 go_loopg [] (U.length-k1) (fun g wx=>∃(a':PT) (ki:Nat) (o4 o5 o6:Option Addr) (q4 q5 q6:Nat),ki+g=U.length∧QI w wx p w1.heap.size w.heap.size U d ki wv tv rv ti ri a' (.slice o4 a'.names.length q4) (.slice o5 a'.ends.length q5) (.slice o6 a'.parts.length q6)∧yR V a' ki e k2)
 case atStart=>exact⟨a,k1,_,_,_,_,_,_,by omega,oW.out,HL.out⟩
 case round=>
  obtain⟨a',ki,o4,o5,o6,q4,q5,q6,hkg,hpi,hpo⟩:=hrel
  have HP:=Lib.hid hpi
  have Lp:=hpi.x.le
  clear hpi
  rcases hpo.inv with⟨hcnd,rfl,rfl⟩|⟨hcnd,gU⟩
  · have HN := Lib.hid hcnd
    clear hpo hcnd
    go_wp2_with fail
    refine(aH 3 ⟨#[42]⟩ _).mono ?_
    rintro x wt ⟨b1,b2,rfl,hbx,hbt⟩
    have Cq:=lt_of_some HP.out.hb
    have HT0:=Lib.hid (And.intro (HP.out.x.moved hbt) (And.intro hbx hbt))
    obtain⟨qq,hqq⟩:=hV.at HP.out.x.le
    clear hbx hbt
    go_wp2_with fail
    refine(bV p ki d U wv tv rv ti ri 3 ⟨#[42]⟩ b1 b2 qq _ (by decide) HT0.out.1 hqq HT0.out.2.1 ?_ ?_).mono ?_
    · intro e;have h1:=HT0.out.1.hh;rw[←e,HT0.out.2.1.h1] at h1;cases h1
    · intro e;have h1:=HT0.out.1.hh;rw[←e,HT0.out.2.1.h2] at h1;cases h1
    rintro x w2 ⟨rfl,hc2',hx2⟩
    have hc2:=(Ch.of (p:=p) HT0.out.2.2).trans hc2'
    clear hc2'
    have hsg:=cZ hV hqq 42
    rw[decide_eq_false (show ¬Pm.sg V ki ((42:UInt8).toNat:Int) from HN.out)] at hsg
    rw[hsg] at hx2 ⊢
    rw[if_neg (by decide)] at hx2
    clear hsg hqq
    have hb2:=(hc2.block _ (lt_of_some HP.out.hb) (fun e=>hpb e.symm)).trans HP.out.hb
    obtain⟨z0,z1,z2,z3,hz⟩:=HP.out.hr
    have hr2:=(hc2.block _ (lt_of_some hz) (by omega)).trans hz
    have hbr:¬w1.heap.size=w.heap.size:=by omega
    obtain⟨⟨d0,d1,d2,d3⟩,g0,g1,g2,g3⟩:=aS hb2
    obtain⟨⟨r0,r1,r2,r3⟩,x0,x1,x2,x3⟩:=aS hr2
    have bM:=HP.out.kp.to (hc2.ag.sub (fun j _ hj=>by omega))
    have HF:=Lib.hid (uZ HX.out hr2 rfl (HP.out.c.trans hc2) hx2 bM (fun j hj=>hj.1))
    clear hb2 hz bM hc2 hx2 HP hr2
    go_wp2_with fail
    obtain⟨W9,hW,⟨⟨e0,e1,e2,e3⟩,m0,m1,m2,m3⟩,hre,bZ,eu⟩:=HF.out
    have HW:=Lib.hid hW
    clear hW HF
    rw[←HW.out]
    refine bodyPost_ret (v:=.agg #[.int .i64 a'.kind,.slice o4 a'.names.length q4,.slice o5 a'.ends.length q5,.slice o6 a'.parts.length q6]) (by simp[results,Tryz.results143,go_sem,e0,e1,e2,e3,m0,m1,m2,m3]) rfl ⟨hre,bZ,eu⟩
  · have HN := Lib.hid hcnd
    clear hpo hcnd
    go_wp2_with fail
    refine(aH 3 ⟨#[42]⟩ _).mono ?_
    rintro x wt ⟨b1,b2,rfl,hbx,hbt⟩
    have Cq:=lt_of_some HP.out.hb
    have HT0:=Lib.hid (And.intro (HP.out.x.moved hbt) (And.intro hbx hbt))
    obtain⟨qq,hqq⟩:=hV.at HP.out.x.le
    clear hbx hbt
    go_wp2_with fail
    refine(bV p ki d U wv tv rv ti ri 3 ⟨#[42]⟩ b1 b2 qq _ (by decide) HT0.out.1 hqq HT0.out.2.1 ?_ ?_).mono ?_
    · intro e;have h1:=HT0.out.1.hh;rw[←e,HT0.out.2.1.h1] at h1;cases h1
    · intro e;have h1:=HT0.out.1.hh;rw[←e,HT0.out.2.1.h2] at h1;cases h1
    rintro x w2 ⟨rfl,hc2',hx2⟩
    have hc2:=(Ch.of (p:=p) HT0.out.2.2).trans hc2'
    clear hc2'
    have hsg:=cZ hV hqq 42
    rw[decide_eq_true (show Pm.sg V ki ((42:UInt8).toNat:Int) from HN.out)] at hsg
    rw[hsg] at hx2 ⊢
    rw[if_pos rfl] at hx2
    clear hsg hqq
    have hb2:=(hc2.block _ (lt_of_some HP.out.hb) (fun e=>hpb e.symm)).trans HP.out.hb
    have hblt:=lt_of_some hb2
    obtain⟨z0,z1,z2,z3,hz⟩:=HP.out.hr
    have hr2:=(hc2.block _ (lt_of_some hz) (by omega)).trans hz
    have je:=lt_of_some hr2
    have hbr:¬w1.heap.size=w.heap.size:=by omega
    obtain⟨⟨d0,d1,d2,d3⟩,g0,g1,g2,g3⟩:=aS hb2
    have bM:=HP.out.kp.to (hc2.ag.sub (fun j _ hj=>by omega))
    have HK:=Lib.hid bM
    have HC:=Lib.hid (HP.out.c.trans hc2)
    have fD:=Lib.hid hx2
    have HR2:=Lib.hid hr2
    have HB2:=Lib.hid hb2
    have oZ:=Lib.hid gU
    have lG:¬w2.heap.size=w1.heap.size:=by omega
    clear hb2 hz bM hc2 hx2 hr2 HP gU
    go_wp2_with fail
    have jP:=Lib.hid (QI.one (n5':=w2.heap.size) 7 HX.out HC.out fD.out HB2.out HR2.out HK.out (by omega) (Nat.le_refl _) (by omega) hblt)
    have hkl:=fD.out.le
    clear d0 d1 d2 d3 g0 g1 g2 g3
    go_roundg (U.length-(ki+1))
    case measure=>omega
    case rel=>exact⟨.mk 7 [] [] [a'],ki+1,none,none,some ⟨w2.heap.size,0,none⟩,0,0,1,by omega,jP.out,oZ.out⟩
end Go.Proofs.YtfkmajjgkdjncaaGreatDoor

namespace Go.Proofs.YtfkmajjgkdjncaaGreatDoor
open Go.RowKit De Wd
def CP (p:Nat) (U:List Uw) (wv tv rv ti ri:Value) (fn d k:Nat) (e:PT) (k':Nat):Prop:=
 ∀w,PI w p U k d wv tv rv ti ri→Calls Tryz.prog fn #[.pointer (some ⟨p,0,none⟩)] w fun x w'=>mR w w' e x∧Ch w w' p∧PI w' p U k' d wv tv rv ti ri
theorem jf (p:Nat) (U:List Uw) (V:Pm.Ws) (hV:iq V U) (wv tv rv ti ri:Value):∀ {d k:Nat} {e:PT} {k':Nat},Pm.iT V d k e k'→k<k'∧CP p U wv tv rv ti ri 95 d k e k':=by
 intro d k e k' h
 refine Pm.iT.rec
  (motive_1:=fun d k e k' _=>k<k'∧CP p U wv tv rv ti ri 95 d k e k')
  (motive_2:=fun d a k e k' _=>k≤k'∧pX V (fun k b k'=>k<k'∧CP p U wv tv rv ti ri 123 d k b k') a k e k')
  (motive_3:=fun d k e k' _=>k<k'∧CP p U wv tv rv ti ri 123 d k e k')
  (motive_4:=fun d a k e k' _=>k≤k'∧pW V (fun k b k'=>k<k'∧CP p U wv tv rv ti ri 143 d k b k') a k e k')
  (motive_5:=fun d k e k' _=>k<k'∧CP p U wv tv rv ti ri 143 d k e k')
  (motive_6:=fun a k e k' _=>k≤k'∧yR V a k e k')
  (motive_7:=fun d k e k' _=>k<k'∧CP p U wv tv rv ti ri 164 d k e k') ?_ ?_ ?_ ?_ ?_ ?_ ?_ ?_ ?_ ?_ ?_ ?_ ?_ ?_ h
 · intro d k k1 k2 a e _ _ ih1 ih2
   exact⟨by omega,fun w hx=>um p k d k1 k2 U V hV wv tv rv ti ri a e w hx _ (fun k b k' h=>Nat.le_of_lt h.1) ih1 ih2.2 (fun w k a k1 hp hx=>hp.2 w hx)⟩
 · intro d k a h
   exact⟨Nat.le_refl _,.stop h⟩
 · intro d k k1 k2 a b e h _ _ ih1 ih2
   exact⟨by omega,.go h ih1 ih2.2⟩
 · intro d k k1 k2 a e _ _ ih1 ih2
   exact⟨by omega,fun w hx=>AO p k d k1 k2 U V hV wv tv rv ti ri a e w hx _ (fun k b k' h=>h.1) ih1 ih2.2 (fun w k a k1 hp hx=>hp.2 w hx)⟩
 · intro d k a h
   exact⟨Nat.le_refl _,.stop h⟩
 · intro d k k1 k2 a b e h _ _ ih1 ih2
   exact⟨by omega,.go h ih1 ih2.2⟩
 · intro d k k1 k2 a e _ _ ih1 ih2
   exact⟨by omega,fun w hx=>yS p k d k1 k2 U V hV wv tv rv ti ri a e w hx ih2.2 (fun w hx=>ih1.2 w hx)⟩
 · intro k a h
   exact⟨Nat.le_refl _,.stop h⟩
 · intro k k2 a e h _ ih
   exact⟨by omega,.go h ih.2⟩
 · intro d k j ns h n h2
   have h5:=iR n
   exact⟨by omega,fun w hx=>uo p k d j U V hV wv tv rv ti ri ns w hx h n h2⟩
 · intro d k h
   exact⟨by omega,fun w hx=>rF p k d U V hV wv tv rv ti ri w hx h⟩
 · intro d k j k1 j2 ns es e h hd n h2 _ h3 n2 h4 ih
   have h5:=iR n
   have h6:=iR n2
   exact⟨by omega,fun w hx=>uY p k d (j2+1) U V hV wv tv rv ti ri _ w hx h (fun w hx=>Dp p k d j k1 j2 U V hV wv tv rv ti ri ns es e w hx h hd n h2 h3 n2 h4 (fun w hx=>ih.2 w hx))⟩
 · intro d k h hd h2
   exact⟨by omega,fun w hx=>kK p k d (k+1+1) U V hV wv tv rv ti ri _ w hx h (fun w hx=>lK p k d (k+1) U V hV wv tv rv ti ri _ w hx h hd (fun _=>⟨rfl,rfl⟩) h2 (fun hn=>absurd h2 hn))⟩
 · intro d k k1 e h hd h2 _ h3 ih
   exact⟨by omega,fun w hx=>kK p k d (k1+1) U V hV wv tv rv ti ri _ w hx h (fun w hx=>lK p k d k1 U V hV wv tv rv ti ri _ w hx h hd (fun h9=>absurd h9 h2) h3 (fun _ w hx=>ih.2 w hx))⟩
end Go.Proofs.YtfkmajjgkdjncaaGreatDoor
