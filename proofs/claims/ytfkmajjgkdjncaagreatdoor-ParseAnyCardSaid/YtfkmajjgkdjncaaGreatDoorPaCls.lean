/- Merged. -/
import Derived.Test.YtfkmajjgkdjncaaGreatDoorPaTwo
import Derived.Deep.RegionLaw
import Derived.Test.YtfkmajjgkdjncaaGreatDoorClsG
import Derived.Test.YtfkmajjgkdjncaaGreatDoorPmScan
import Derived.IntWalk
set_option linter.unusedVariables false
set_option linter.unusedSimpArgs false
set_option maxHeartbeats 4000000
set_option maxRecDepth 100000
namespace Go.Proofs.YtfkmajjgkdjncaaGreatDoor
open Go.RowKit De Wd
theorem Jq (p k d k1 k2:Nat) (s:ByteArray) (L:Its) (v:Value) (a e:RE) (w:World) (h:XI w p s L k d v) (h128:Sc L) (P:Nat→RE→Nat→Prop) (hmono:∀k b k',P k b k'→k<k') (h1:P k a k1) (hl:zx L P a k1 e k2) (zW:Pm.eG (pk L k)=true)
 (hat:∀w k a k1,P k a k1→XI w p s L k d v→Calls Tryz.prog 111 #[.pointer (some ⟨p,0,none⟩)] w fun x w'=>jv w w' a x∧Ch w w' p∧XI w' p s L k1 d v) :
 Calls Tryz.prog 69 #[.pointer (some ⟨p,0,none⟩)] w fun x w'=>jv w w' e x∧Ch w w' p∧XI w' p s L k2 d v:=by
 have hlt:=h.lt
 have hA:=h.moved (ah (Below.refl _ _) (.cells #[.int .i64 0,.slice none 0 0,.slice none 0 0] 35))
 have HX:=Lib.hid h
 have HA:=Lib.hid hA
 have HT:=Lib.hid hat
 have HL:=Lib.hid hl
 have sP:=Lib.hid h1
 have zY:=Lib.hid h128
 clear h hA hat hl h1 h128
 go_enter Tryz.func69,Tryz.ntmps69
 go_wp2_with fail
 refine(iI p k d s L v _ HA.out zY.out).mono ?_
 rintro x wz ⟨rfl,hwz⟩
 rw[zW]
 have hsz:w.heap.size<wz.heap.size:=by have:=hwz.size;simp at this;omega
 have hrz:wz.heap[w.heap.size]? = some (.cells #[.int .i64 0,.slice none 0 0,.slice none 0 0] 35 (0,0)):=by rw[hwz.block _ (by simp)];exact heap_alloc_new w _
 have hcz:Ch w wz p:=(Ch.of (ah (Below.refl _ _) _)).trans (Ch.of hwz)
 have Jr:=Lib.hid (HA.out.moved hwz)
 clear hwz
 go_wp2_with fail
 refine(HT.out _ _ _ _ sP.out Jr.out).mono ?_
 rintro x w1 ⟨⟨sv,lv,rfl,hkp⟩,hch,hxi⟩
 obtain⟨⟨o1,q1,rfl⟩,⟨o2,q2,rfl⟩⟩:=hkp.here.form
 have hs1:w.heap.size<w1.heap.size:=by have:=hch.size;omega
 have hr1:w1.heap[w.heap.size]? = some (.cells #[.int .i64 0,.slice none 0 0,.slice none 0 0] 35 (0,0)):=by rw[hch.block _ hsz (by omega)];exact hrz
 have hpb:p≠w1.heap.size:=by omega
 have gT:=hxi.moved (ah (Below.refl _ _) (.cells #[.int .i64 a.kind,.slice o1 a.set.length q1,.slice o2 a.parts.length q2] 35))
 have hpi:qQ w (w1.alloc (.cells #[.int .i64 a.kind,.slice o1 a.set.length q1,.slice o2 a.parts.length q2] 35)) p w1.heap.size w.heap.size s L d k1 v a (.slice o1 a.set.length q1) (.slice o2 a.parts.length q2):=by
  refine⟨gT,?_,heap_alloc_new w1 _,⟨.int .i64 0,.slice none 0 0,.slice none 0 0,?_⟩,?_⟩
  · exact(hcz.trans hch).trans (Ch.of (ah (Below.refl _ _) _))
  · rw[(ah (Below.refl w1.heap.size w1) _).block _ hs1];exact hr1
  · intro w' hag
    refine hkp w' ⟨hag.os,hag.tape,hag.output,by have:=hag.size;simp at this;omega,fun j hj hS=>?_⟩
    have hS':wz.heap.size≤j:=hS
    rw[hag.block j (by simp;omega) ⟨by omega,by omega⟩]
    exact(ah (Below.refl w1.heap.size w1) _).block j hj
 have oW:=Lib.hid hpi
 have hle:=hxi.le
 clear hpi gT hxi hch hkp hr1 hcz hrz
 go_wp2_with fail
 go_loopg [] (L.length-k1) (fun g wx=>∃(a':RE) (ki:Nat) (o3 o4:Option Addr) (q3 q4:Nat),ki+g=L.length∧qQ w wx p w1.heap.size w.heap.size s L d ki v a' (.slice o3 a'.set.length q3) (.slice o4 a'.parts.length q4)∧zx L P a' ki e k2)
 case atStart=>exact⟨a,k1,_,_,_,_,by omega,oW.out,HL.out⟩
 case round=>
  obtain⟨a',ki,o3,o4,q3,q4,hkg,hpi,hpo⟩:=hrel
  have HP:=Lib.hid hpi
  obtain⟨⟨c0,c1,c2⟩,f0,f1,f2⟩:=ay hpi.hb
  clear hpi
  rcases hpo.inv with⟨hcnd,rfl,rfl⟩|⟨hcnd,nb,kj,hpp,gU⟩
  · have HN := Lib.hid hcnd
    clear hpo hcnd
    go_wp2_with fail
    refine(iI p ki d s L v _ HP.out.x zY.out).mono ?_
    rintro x w2 ⟨rfl,hwz⟩
    have hc2:Ch _ w2 p:=Ch.of hwz
    have hx2:=HP.out.x.moved hwz
    clear hwz
    rw[HN.out]
    have hb2:=(hc2.block _ (lt_of_some HP.out.hb) (fun e=>hpb e.symm)).trans HP.out.hb
    obtain⟨z0,z1,z2,hz⟩:=HP.out.hr
    have hr2:=(hc2.block _ (lt_of_some hz) (by omega)).trans hz
    have hbr:¬w1.heap.size=w.heap.size:=by omega
    obtain⟨⟨d0,d1,d2⟩,g0,g1,g2⟩:=ay hb2
    obtain⟨⟨r0,r1,r2⟩,x0,x1,x2⟩:=ay hr2
    have bM:=HP.out.kp.to (hc2.ag.sub (fun j _ hj=>by omega))
    have HK:=Lib.hid bM
    have HC:=Lib.hid (HP.out.c.trans hc2)
    have fD:=Lib.hid hx2
    have HR2:=Lib.hid hr2
    clear c0 c1 c2 f0 f1 f2 hb2 hz bM hc2 hx2 HP hr2
    go_wp2_with fail
    obtain⟨W9,hW⟩:∃W9,W9=((w2.setCell ⟨w.heap.size,0,none⟩ (.int .i64 a'.kind)).setCell ⟨w.heap.size,1,none⟩ (.slice o3 a'.set.length q3)).setCell ⟨w.heap.size,2,none⟩ (.slice o4 a'.parts.length q4):=⟨_,rfl⟩
    have h9:W9.heap[w.heap.size]? = some (.cells #[.int .i64 a'.kind,.slice o3 a'.set.length q3,.slice o4 a'.parts.length q4] 35 (0,0)):=by
     rw[hW];have:=HR2.out;simp[World.setCell,Array.getElem?_modify,this]
    have hag : Ag (fun j => w.heap.size < j ∧ j ≠ w1.heap.size) w2 W9 := by
     rw[hW]
     exact(((Ag.refl _ _).setCell (fun h=>Nat.lt_irrefl _ h.1) _).setCell (fun h=>Nat.lt_irrefl _ h.1) _).setCell (fun h=>Nat.lt_irrefl _ h.1) _
    have bZ:Ch w W9 p:=by rw[hW];exact((HC.out.aN (Nat.le_refl _)).aN (Nat.le_refl _)).aN (Nat.le_refl _)
    have eu:XI W9 p s L ki d v:=by rw[hW];exact HX.out.aL (HX.out.aL (HX.out.aL fD.out (Nat.le_refl _)) (Nat.le_refl _)) (Nat.le_refl _)
    rw[←hW]
    clear hW r0 r1 r2 x0 x1 x2 d0 d1 d2 g0 g1 g2
    obtain⟨⟨d0,d1,d2⟩,g0,g1,g2⟩:=ay h9
    refine bodyPost_ret (v:=.agg #[.int .i64 a'.kind,.slice o3 a'.set.length q3,.slice o4 a'.parts.length q4]) (by simp[results,Tryz.results69,go_sem,d0,d1,d2,g0,g1,g2]) rfl ?_
    exact⟨⟨_,_,rfl,(HK.out.to hag).sub (fun j _ hj=>Nat.le_of_lt hj.1)⟩,bZ,eu⟩
  · have HN := Lib.hid hcnd
    clear hpo hcnd
    go_wp2_with fail
    refine(iI p ki d s L v _ HP.out.x zY.out).mono ?_
    rintro x w2 ⟨rfl,hwz⟩
    have hc2:Ch _ w2 p:=Ch.of hwz
    have hx2:=HP.out.x.moved hwz
    clear hwz
    have hki:ki<L.length:=by have h1:=HN.out;unfold Pm.eG at h1;simp at h1;exact fI rfl (by omega)
    rw[HN.out]
    have hb2:=(hc2.block _ (lt_of_some HP.out.hb) (fun e=>hpb e.symm)).trans HP.out.hb
    have hblt:=lt_of_some hb2
    obtain⟨z0,z1,z2,hz⟩:=HP.out.hr
    have hr2:=(hc2.block _ (lt_of_some hz) (by omega)).trans hz
    have je:=lt_of_some hr2
    have hbr:¬w1.heap.size=w.heap.size:=by omega
    obtain⟨⟨d0,d1,d2⟩,g0,g1,g2⟩:=ay hb2
    have bM:=HP.out.kp.to (hc2.ag.sub (fun j _ hj=>by omega))
    have HK:=Lib.hid bM
    have HC:=Lib.hid (HP.out.c.trans hc2)
    have fD:=Lib.hid hx2
    have HR2:=Lib.hid hr2
    have HB2:=Lib.hid hb2
    have oZ:=Lib.hid gU
    have gq:=Lib.hid hpp
    have zX:=hmono _ _ _ hpp
    have lG:¬w2.heap.size=w1.heap.size:=by omega
    clear c0 c1 c2 f0 f1 f2 hb2 hz bM hc2 hx2 hr2 HP gU hpp
    go_wp2_with fail
    go_region_law
     (go_simp;go_at_call 111;refine(HT.out _ _ _ _ gq.out (fD.out.moved (by repeat (first|exact Below.refl _ _|refine Below.drew ?_)))).mono ?_;rintro x w5 ⟨⟨Uc,Ud,rfl,hk5⟩,aK,hx5⟩;obtain⟨⟨o5,q5,rfl⟩,⟨o6,q6,rfl⟩⟩:=hk5.here.form;have hb5:=(aK.block _ hblt (fun e=>hpb e.symm)).trans HB2.out;obtain⟨⟨e0,e1,e2⟩,m0,m1,m2⟩:=ay hb5;have jw:w1.heap.size<w5.heap.size:=Nat.lt_of_lt_of_le hblt (show w2.heap.size≤w5.heap.size from aK.size);have sQ:¬w5.heap.size=w1.heap.size:=(fun e=>absurd jw (e▸Nat.lt_irrefl _));have sS:¬w1.heap.size=w5.heap.size:=(fun e=>absurd jw (e▸Nat.lt_irrefl _)))
    all_goals (
     have jO:=(aK.block _ je (fun e=>by omega)).trans HR2.out
     have jy:=HK.out.to (((Ag.refl _ w2).drew).trans (aK.ag.sub (fun j _ hj=>by omega)))
     have jP:=Lib.hid (qQ.two (b':=nb) (n5:=w2.heap.size) 3 HX.out (HC.out.trans (Ch.trans (Ch.of (Below.refl _ _).drew) aK)) hx5 hb5 jO jy (hk5.sub (fun j _ hj=>hj)) (by omega) (Nat.le_refl _) (by omega) hblt)
     have hkl:=hx5.le
     clear hb5 jO jy e0 e1 e2 m0 m1 m2 d0 d1 d2 g0 g1 g2 aK hx5 hk5
     try go_wp2_with fail
     go_roundg (L.length-kj)
     case measure=>omega
     case rel=>exact⟨.mk 3 [] [a',nb],kj,none,some ⟨w5.heap.size,0,none⟩,0,2,by omega,jP.out,oZ.out⟩)
theorem uR (s:ByteArray) (a b:Nat):sb (s.extract a b)=((sb s).drop a).take (b-a):=by
 have h:(s.extract a b).data.toList=(s.data.toList.drop a).take (b-a):=by
  rw[ByteArray.data_extract,Array.toList_extract]
 unfold sb
 rw[h,List.map_take,List.map_drop]
def gP (s:ByteArray) (a b:Nat):Cr:=kE (all 0 (sb (s.extract a b))) (s.extract a b).size
theorem kP (o:Option Addr) (n cap:Nat) (w:World) :
 Calls Tryz.prog 157 #[.slice o n cap] w fun e w'=>e=.returned (.agg #[.int .i64 2,.slice o n cap,.slice none 0 0])∧Below w.heap.size w w':=by
 go_enter Tryz.func157,Tryz.ntmps157
 go_wp2_with fail
 refine bodyPost_ret (v:=.agg #[.int .i64 2,.slice o n cap,.slice none 0 0]) (by simp[results,Tryz.results157,go_sem]) rfl ⟨rfl,?_⟩
 repeat (first|exact Below.refl _ _|(refine Below.setCell ?_ (by simp) _)|(refine Below.alloc ?_ (by simp) _))
theorem kX (p k d a b:Nat) (s:ByteArray) (L:Its) (v:Value) (S:List (Int×Int)) (w:World) (h:XI w p s L k d v) (hab:a≤b) (hb:b≤s.size) (hsz:b-a≤100000) (hc:gP s a b=.ok S) :
 Calls Tryz.prog 175 #[.pointer (some ⟨p,0,none⟩),.int .i64 a,.int .i64 b] w fun e w'=>∃u,e=.returned u∧w'.ownsRow w.heap.size 79 2 u S.length (flatK .i32 S)∧Below w.heap.size w w':=by
 obtain⟨⟨c0,c1,c2,c3⟩,f0,f1,f2,f3⟩:=aJ h.hh
 have hx:(s.extract a b).size≤100000:=by rw[ByteArray.size_extract];omega
 have hcl:=fun w=>Bg (s.extract a b) w hx (xE _ 0 _ (Nat.le_refl _) (oJ _))
 have HC:=Lib.hid hc
 have ni:=Lib.hid hcl
 have i1:(0:Int)≤(a:Int):=by omega
 have i2:(a:Int)≤(b:Int):=by omega
 have i3:(b:Int)≤(s.size:Int):=by omega
 clear h hc hcl
 go_enter Tryz.func175,Tryz.ntmps175
 go_wp2_with fail
 refine(ni.out _).mono ?_
 rintro e w1 hpost
 unfold kY at hpost
 have e1:kE (all 0 (sb (s.extract a b))) (s.extract a b).size=.ok S:=HC.out
 rw[e1] at hpost
 obtain⟨u,rfl,hown,hbel⟩:=hpost
 have HO:=Lib.hid (And.intro hown hbel)
 clear hown hbel e1
 go_wp2_with fail
 go_ret
 exact⟨u,rfl,HO.out.1,HO.out.2⟩
theorem dh.inv {L:Its} {k j:Nat} (h:Pm.dh L k j):(k=j∧(k<L.length→pk L k=93))∨(k+1<L.length∧pk L k=92∧Pm.dh L (k+2) j)∨(k<L.length∧pk L k≠93∧pk L k≠92∧Pm.dh L (k+1) j):=by
 cases h with
 | stop h=>exact .inl ⟨rfl,h⟩
 | esc h e r=>exact .inr (.inl ⟨h,e,r⟩)
 | go h e e2 r=>exact .inr (.inr ⟨h,e,e2,r⟩)
theorem jI.inv {L:Its} {k j:Nat} (h:Pm.jI L k j):(k=j∧(k<L.length→pk L k=125))∨(k<L.length∧pk L k≠125∧Pm.jI L (k+1) j):=by
 cases h with
 | stop h=>exact .inl ⟨rfl,h⟩
 | go h e r=>exact .inr ⟨h,e,r⟩
theorem Ku (p k d a j:Nat) (s:ByteArray) (L:Its) (v:Value) (S:List (Int×Int)) (w:World) (h:XI w p s L k d v) (hs:Pm.dh L k j) (LW:pk L j=93)
 (hab:a≤aA L s.size j) (hb:aA L s.size j≤s.size) (hsz:aA L s.size j-a≤100000) (hc:gP s a (aA L s.size j)=.ok S) :
 Calls Tryz.prog 155 #[.pointer (some ⟨p,0,none⟩),.int .i64 a] w fun x w'=>jv w w' (.mk 2 S []) x∧Ch w w' p∧XI w' p s L (j+1) d v:=by
 have hsm:=h.small
 have hle:=h.le
 have dw:=h.lt
 obtain⟨ov,cv,hv,_⟩:=h.row
 have hA:=h.moved (ah (Below.refl _ _) (.cells #[.int .i64 0,.slice none 0 0,.slice none 0 0] 35))
 obtain⟨W0,hW0⟩:∃W0,W0=w.alloc (.cells #[.int .i64 0,.slice none 0 0,.slice none 0 0] 35):=⟨_,rfl⟩
 have hr0:W0.heap[w.heap.size]? = some (.cells #[.int .i64 0,.slice none 0 0,.slice none 0 0] 35 (0,0)):=by rw[hW0];exact heap_alloc_new w _
 have kg:W0.heap.size=w.heap.size+1:=by rw[hW0];simp
 have hcW:Ch w W0 p:=by rw[hW0];exact Ch.of (ah (Below.refl _ _) _)
 rw[←hW0] at hA
 have HX:=Lib.hid h
 have HA:=Lib.hid (And.intro hA (And.intro hr0 hcW))
 have HS:=Lib.hid hs
 have HB:=Lib.hid (And.intro hab (And.intro hb (And.intro hsz hc)))
 have vG:=Lib.hid LW
 have HW0:=Lib.hid hW0
 clear h hs hab hb hsz hc LW hA hr0 hcW hW0
 subst hv
 go_enter Tryz.func155,Tryz.ntmps155
 go_wp2_with fail
 rw[←HW0.out]
 go_loopg [] (L.length-k) (fun g wx=>∃ki:Nat,ki+g=L.length∧XI wx p s L ki d (.slice ov L.length cv)∧Ch W0 wx p∧Pm.dh L ki j)
 case atStart=>exact⟨k,by omega,HA.out.1,Ch.refl _ _,HS.out⟩
 case round=>
  obtain⟨ki,hkg,hxi,hch,hsc⟩:=hrel
  obtain⟨⟨c0,c1,c2,c3⟩,f0,f1,f2,f3⟩:=aJ hxi.hh
  have HI:=Lib.hid hxi
  have xg:=Lib.hid hch
  have Ow:(0:Int)≤(ki:Int):=by omega
  clear hxi hch
  rcases dh.inv hsc with⟨rfl,h0⟩|⟨h0,lT,hsc2⟩|⟨h0,zZ,vY,hsc2⟩
  · have hkl := fI vG.out (by decide)
    have e1:decide ((ki:Int)<(L.length:Int))=true:=by simp;omega
    have e2:decide (ki<L.length)=true:=by simp;omega
    have t1:(pk L ki != 93)=false:=by rw[vG.out];rfl
    clear hsc h0
    go_wp2_with fail
    go_quiet ((go_at_call 112;exact Calls.quiet_of_same (bf p ki ki d s L _ _ (HI.out.drewN _))))
    clear c0 c1 c2 c3 f0 f1 f2 f3
    have bC:=Lib.hid (And.intro (HI.out.drewN nq) (xg.out.trans (Ch.drewN p nq)))
    obtain⟨⟨c0,c1,c2,c3⟩,f0,f1,f2,f3⟩:=aJ bC.out.1.hh
    generalize wr.drewN nq=wq at bC c0 c1 c2 c3 f0 f1 f2 f3 ⊢
    go_wp2_with fail
    refine(dx p ki ki d s L _ _ bC.out.1).mono ?_
    rintro x w1 ⟨rfl,hw⟩
    have hw:=hw.symm
    subst hw
    go_wp2_with fail
    refine(kX p ki d a (aA L s.size ki) s L _ S _ bC.out.1 HB.out.1 HB.out.2.1 HB.out.2.2.1 HB.out.2.2.2).mono ?_
    rintro x w1 ⟨u,rfl,hown,hbel⟩
    have hx1:=bC.out.1.moved hbel
    obtain⟨ou,cu,rfl⟩:=au hown
    have HO:=Lib.hid (And.intro hown hbel)
    clear hown hbel c0 c1 c2 c3 f0 f1 f2 f3
    go_wp2_with fail
    refine(iA p ki d 93 s L _ _ hx1 (by decide)).mono ?_
    rintro x w2 ⟨rfl,hc2,hx2⟩
    rw[if_pos vG.out] at hx2
    rw[decide_eq_true vG.out]
    have fD:=Lib.hid hx2
    have xk:=Lib.hid hc2
    clear hx1 hx2 hc2
    go_wp2_with fail
    refine(kP ou S.length cu _).mono ?_
    rintro x w3 ⟨rfl,hb3⟩
    have jA:Ch W0 w3 p:=(bC.out.2.trans (Ch.of HO.out.2)).trans (xk.out.trans (Ch.of hb3))
    have hr3:w3.heap[w.heap.size]? = some (.cells #[.int .i64 0,.slice none 0 0,.slice none 0 0] 35 (0,0)):=(jA.block _ (by omega) (by omega)).trans HA.out.2.1
    have hkp : KP (fun j => wq.heap.size ≤ j) w3 (fun w2 => bI w2 (.mk 2 S []) (.slice ou S.length cu) (.slice none 0 0)) := by
     intro w' hag
     refine oz (Row.owned (dU (S:=fun j=>wq.heap.size≤j) HO.out.1 ((xk.out.ag.sub (fun j _ hj=>?_)).trans ((Ag.of hb3).trans hag)) (fun j hj=>(HO.out.1.lt j hj).1)))
     have:=bC.out.1.lt;omega
    have xq:w.heap.size<wq.heap.size:=by have:=bC.out.2.size;omega
    obtain⟨⟨d0,d1,d2⟩,g0,g1,g2⟩:=ay hr3
    have HF:=Lib.hid (qw HX.out hr3 rfl (HA.out.2.2.trans jA) (fD.out.moved hb3) hkp (fun j hj=>by omega))
    clear jA hr3 hkp hb3
    go_wp2_with fail
    obtain⟨W9,hW,⟨⟨e0,e1,e2⟩,m0,m1,m2⟩,hre,bZ,eu⟩:=HF.out
    have HW:=Lib.hid hW
    clear hW HF
    rw[show(.int .i64 2:Value)=.int .i64 (RE.mk 2 S []).kind from rfl,←HW.out]
    refine bodyPost_ret (v:=.agg #[.int .i64 2,.slice ou S.length cu,.slice none 0 0]) (by simp[results,Tryz.results155,go_sem,e0,e1,e2,m0,m1,m2,RE.kind]) rfl ⟨hre,bZ,eu⟩
  · have e1 : decide ((ki : Int) < (L.length : Int)) = true := by simp; omega
    have e2:decide (ki<L.length)=true:=by simp;omega
    have e3:decide ((ki:Int)+1<(L.length:Int))=true:=by simp;omega
    have e4:decide (ki+1<L.length)=true:=by simp;omega
    have t1:(pk L ki != 93)=true:=by rw[lT];rfl
    have t2:(pk L ki == 92)=true:=by rw[lT];rfl
    have vH:=Lib.hid hsc2
    have hw1:IntKind.i64.wrap ((ki:Int)+1)=(ki:Int)+1:=IntWalk.i64_in _ (by omega)
    clear hsc hsc2 lT
    go_wp2_with fail
    go_quiet ((go_at_call 112;exact Calls.quiet_of_same (bf p ki ki d s L _ _ (HI.out.drewN _))))
    clear c0 c1 c2 c3 f0 f1 f2 f3
    have bC:=Lib.hid (And.intro (HI.out.drewN nq) (xg.out.trans (Ch.drewN p nq)))
    obtain⟨⟨c0,c1,c2,c3⟩,f0,f1,f2,f3⟩:=aJ bC.out.1.hh
    generalize wr.drewN nq=wq at bC c0 c1 c2 c3 f0 f1 f2 f3 ⊢
    go_wp2_with fail
    go_quiet ((go_at_call 112;exact Calls.quiet_of_same (bf p ki ki d s L _ _ (bC.out.1.drewN _))))
    clear c0 c1 c2 c3 f0 f1 f2 f3
    have gV:=Lib.hid (And.intro (bC.out.1.drewN nq) (bC.out.2.trans (Ch.drewN p nq)))
    obtain⟨⟨c0,c1,c2,c3⟩,f0,f1,f2,f3⟩:=aJ gV.out.1.hh
    generalize wq.drewN nq=wp at gV c0 c1 c2 c3 f0 f1 f2 f3 ⊢
    clear hw1
    go_wp2_with fail
    have ea:(ki:Int)+1=((ki+1:Nat):Int):=by omega
    have eb:(ki:Int)+1+1=((ki+2:Nat):Int):=by omega
    try simp only[eb]
    try simp only[ea]
    clear ea eb
    go_roundg (L.length-(ki+2))
    case measure=>omega
    case rel=>exact⟨ki+2,by omega,(gV.out.1.at (k':=ki+1) (by omega)).at (by omega),(gV.out.2.trans (Ch.set _ _ _ _)).trans (Ch.set _ _ _ _),vH.out⟩
  · have e1 : decide ((ki : Int) < (L.length : Int)) = true := by simp; omega
    have e2:decide (ki<L.length)=true:=by simp;omega
    have t1:(pk L ki != 93)=true:=by simpa using zZ
    have t2:(pk L ki == 92)=false:=by simpa using vY
    have vH:=Lib.hid hsc2
    clear hsc hsc2 vY zZ
    go_wp2_with fail
    go_quiet ((go_at_call 112;exact Calls.quiet_of_same (bf p ki ki d s L _ _ (HI.out.drewN _))))
    clear c0 c1 c2 c3 f0 f1 f2 f3
    have bC:=Lib.hid (And.intro (HI.out.drewN nq) (xg.out.trans (Ch.drewN p nq)))
    obtain⟨⟨c0,c1,c2,c3⟩,f0,f1,f2,f3⟩:=aJ bC.out.1.hh
    generalize wr.drewN nq=wq at bC c0 c1 c2 c3 f0 f1 f2 f3 ⊢
    go_wp2_with fail
    go_quiet ((go_at_call 112;exact Calls.quiet_of_same (bf p ki ki d s L _ _ (bC.out.1.drewN _))))
    clear c0 c1 c2 c3 f0 f1 f2 f3
    have gV:=Lib.hid (And.intro (bC.out.1.drewN nq) (bC.out.2.trans (Ch.drewN p nq)))
    obtain⟨⟨c0,c1,c2,c3⟩,f0,f1,f2,f3⟩:=aJ gV.out.1.hh
    generalize wq.drewN nq=wp at gV c0 c1 c2 c3 f0 f1 f2 f3 ⊢
    go_wp2_with fail
    have ea:(ki:Int)+1=((ki+1:Nat):Int):=by omega
    try simp only[ea]
    clear ea
    go_roundg (L.length-(ki+1))
    case measure=>omega
    case rel=>exact⟨ki+1,by omega,gV.out.1.at (by omega),gV.out.2.trans (Ch.set _ _ _ _),vH.out⟩
end Go.Proofs.YtfkmajjgkdjncaaGreatDoor
