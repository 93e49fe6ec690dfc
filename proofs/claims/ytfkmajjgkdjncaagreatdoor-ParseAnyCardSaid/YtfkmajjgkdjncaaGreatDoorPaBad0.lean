/- Merged. -/
import Derived.Test.YtfkmajjgkdjncaaGreatDoorPaEsc
import Derived.Test.YtfkmajjgkdjncaaGreatDoorPaFail
set_option linter.unusedVariables false
set_option linter.unusedSimpArgs false
set_option maxHeartbeats 4000000
set_option maxRecDepth 100000
namespace Go.Proofs.YtfkmajjgkdjncaaGreatDoor
open Go.RowKit De Wd
theorem AZ (p k d k2 : Nat) (s : ByteArray) (L : Its) (v : Value) (e : RE) (w : World) (h : XI w p s L k d v) (hrn : pk L k = 40) (hat : ∀ w, XI w p s L (k + 1) d v → Calls Tryz.prog 154 #[.pointer (some ⟨p, 0, none⟩), .int .i64 ((aA L s.size k : Nat) : Int)] w fun x w' => jv w w' e x ∧ Ch w w' p ∧ XI w' p s L k2 d v) :
 Calls Tryz.prog 139 #[.pointer (some ⟨p,0,none⟩)] w fun x w'=>jv w w' e x∧Ch w w' p∧XI w' p s L k2 d v:=by
 have dw:=h.lt
 have hA:=h.moved (ah (Below.refl _ _) (.cells #[.int .i64 0,.slice none 0 0,.slice none 0 0] 35))
 obtain⟨W0,hW0⟩:∃W0,W0=w.alloc (.cells #[.int .i64 0,.slice none 0 0,.slice none 0 0] 35):=⟨_,rfl⟩
 have hr0:W0.heap[w.heap.size]? = some (.cells #[.int .i64 0,.slice none 0 0,.slice none 0 0] 35 (0,0)):=by rw[hW0];exact heap_alloc_new w _
 have kg:W0.heap.size=w.heap.size+1:=by rw[hW0];simp
 have hcW:Ch w W0 p:=by rw[hW0];exact Ch.of (ah (Below.refl _ _) _)
 rw[←hW0] at hA
 obtain⟨⟨c0,c1,c2,c3⟩,f0,f1,f2,f3⟩:=aJ hA.hh
 have hkl:=fI hrn (by decide)
 have hx1:XI (W0.setCell ⟨p,2,none⟩ (.int .i64 ((k:Int)+1))) p s L (k+1) d v:=by
  have h9:=hA.at (k':=k+1) (by omega)
  rwa [show((k+1:Nat):Int)=(k:Int)+1 by omega] at h9
 obtain⟨W1,hW1⟩:∃W1,W1=W0.setCell ⟨p,2,none⟩ (.int .i64 ((k:Int)+1)):=⟨_,rfl⟩
 rw[←hW1] at hx1
 have hc1:Ch W0 W1 p:=by rw[hW1];exact Ch.set _ _ _ _
 have hs1:W1.heap.size=w.heap.size+1:=by rw[hW1,←kg];simp[World.setCell]
 have HX:=Lib.hid h
 have HA:=Lib.hid (And.intro hA (And.intro hr0 hcW))
 have H1:=Lib.hid (And.intro hx1 hc1)
 have HT:=Lib.hid hat
 have HW0:=Lib.hid hW0
 have HW1:=Lib.hid hW1
 have hk0:(0:Int)≤(k:Int):=by omega
 have hsm:=h.small
 have t40:(pk L k == 40)=true:=by rw[hrn];rfl
 clear h hA hat hW0 hW1 hr0 hcW hx1 hc1 hrn
 go_enter Tryz.func139,Tryz.ntmps139
 go_wp2_with (with_reducible rw[←HW0.out])
 refine(dx p k k d s L _ _ HA.out.1).mono ?_
 rintro x w1 ⟨rfl,hw⟩
 have hw:=hw.symm
 subst hw
 go_wp2_with fail
 refine(bf p k k d s L _ _ HA.out.1).mono ?_
 rintro x w1 ⟨rfl,hw⟩
 have hw:=hw.symm
 subst hw
 go_wp2_with fail
 rw[←HW1.out]
 refine(HT.out _ H1.out.1).mono ?_
 rintro x w2 ⟨⟨sv,lv,rfl,hkp⟩,hch,hx2⟩
 obtain⟨⟨o1,q1,rfl⟩,⟨o2,q2,rfl⟩⟩:=hkp.here.form
 have hr2:=(H1.out.2.trans hch).block _ (show w.heap.size<W0.heap.size by omega) (by omega) |>.trans HA.out.2.1
 obtain⟨⟨d0,d1,d2⟩,g0,g1,g2⟩:=ay hr2
 have HF:=Lib.hid (qw HX.out hr2 rfl ((HA.out.2.2.trans H1.out.2).trans hch) hx2 hkp (fun j hj=>by omega))
 clear hkp hch hx2 hr2 c0 c1 c2 c3 f0 f1 f2 f3
 go_wp2_with fail
 obtain⟨W9,hW,⟨⟨e0,e1,e2⟩,m0,m1,m2⟩,hre,bZ,eu⟩:=HF.out
 have HW:=Lib.hid hW
 clear hW HF
 rw[←HW.out]
 refine bodyPost_ret (v:=.agg #[.int .i64 e.kind,.slice o1 e.set.length q1,.slice o2 e.parts.length q2]) (by simp[results,Tryz.results139,go_sem,e0,e1,e2,m0,m1,m2]) rfl ⟨hre,bZ,eu⟩
theorem A8 (p k d k2 : Nat) (s : ByteArray) (L : Its) (v : Value) (e : RE) (w : World) (h : XI w p s L k d v) (hrn : pk L k = 91) (hat : ∀ w, XI w p s L (k + 1) d v → Calls Tryz.prog 155 #[.pointer (some ⟨p, 0, none⟩), .int .i64 (((aA L s.size k : Nat) : Int) + 1)] w fun x w' => jv w w' e x ∧ Ch w w' p ∧ XI w' p s L k2 d v) (hpl : aA L s.size k ≤ 1000000) :
 Calls Tryz.prog 139 #[.pointer (some ⟨p,0,none⟩)] w fun x w'=>jv w w' e x∧Ch w w' p∧XI w' p s L k2 d v:=by
 have dw:=h.lt
 have hA:=h.moved (ah (Below.refl _ _) (.cells #[.int .i64 0,.slice none 0 0,.slice none 0 0] 35))
 obtain⟨W0,hW0⟩:∃W0,W0=w.alloc (.cells #[.int .i64 0,.slice none 0 0,.slice none 0 0] 35):=⟨_,rfl⟩
 have hr0:W0.heap[w.heap.size]? = some (.cells #[.int .i64 0,.slice none 0 0,.slice none 0 0] 35 (0,0)):=by rw[hW0];exact heap_alloc_new w _
 have kg:W0.heap.size=w.heap.size+1:=by rw[hW0];simp
 have hcW:Ch w W0 p:=by rw[hW0];exact Ch.of (ah (Below.refl _ _) _)
 rw[←hW0] at hA
 obtain⟨⟨c0,c1,c2,c3⟩,f0,f1,f2,f3⟩:=aJ hA.hh
 have hkl:=fI hrn (by decide)
 have hx1:XI (W0.setCell ⟨p,2,none⟩ (.int .i64 ((k:Int)+1))) p s L (k+1) d v:=by
  have h9:=hA.at (k':=k+1) (by omega)
  rwa [show((k+1:Nat):Int)=(k:Int)+1 by omega] at h9
 obtain⟨W1,hW1⟩:∃W1,W1=W0.setCell ⟨p,2,none⟩ (.int .i64 ((k:Int)+1)):=⟨_,rfl⟩
 rw[←hW1] at hx1
 have hc1:Ch W0 W1 p:=by rw[hW1];exact Ch.set _ _ _ _
 have hs1:W1.heap.size=w.heap.size+1:=by rw[hW1,←kg];simp[World.setCell]
 have HX:=Lib.hid h
 have HA:=Lib.hid (And.intro hA (And.intro hr0 hcW))
 have H1:=Lib.hid (And.intro hx1 hc1)
 have HT:=Lib.hid hat
 have HW0:=Lib.hid hW0
 have HW1:=Lib.hid hW1
 have hk0:(0:Int)≤(k:Int):=by omega
 have hsm:=h.small
 have t40:(pk L k == 40)=false:=by rw[hrn];rfl
 have t91:(pk L k == 91)=true:=by rw[hrn];rfl
 have hpi:(0:Int)≤((aA L s.size k:Nat):Int):=by omega
 have ZO:((aA L s.size k:Nat):Int)≤1000000:=by omega
 clear h hA hat hW0 hW1 hr0 hcW hx1 hc1 hrn
 go_enter Tryz.func139,Tryz.ntmps139
 go_wp2_with (with_reducible rw[←HW0.out])
 refine(dx p k k d s L _ _ HA.out.1).mono ?_
 rintro x w1 ⟨rfl,hw⟩
 have hw:=hw.symm
 subst hw
 go_wp2_with fail
 refine(bf p k k d s L _ _ HA.out.1).mono ?_
 rintro x w1 ⟨rfl,hw⟩
 have hw:=hw.symm
 subst hw
 go_wp2_with fail
 rw[←HW1.out]
 refine(HT.out _ H1.out.1).mono ?_
 rintro x w2 ⟨⟨sv,lv,rfl,hkp⟩,hch,hx2⟩
 obtain⟨⟨o1,q1,rfl⟩,⟨o2,q2,rfl⟩⟩:=hkp.here.form
 have hr2:=(H1.out.2.trans hch).block _ (show w.heap.size<W0.heap.size by omega) (by omega) |>.trans HA.out.2.1
 obtain⟨⟨d0,d1,d2⟩,g0,g1,g2⟩:=ay hr2
 have HF:=Lib.hid (qw HX.out hr2 rfl ((HA.out.2.2.trans H1.out.2).trans hch) hx2 hkp (fun j hj=>by omega))
 clear hkp hch hx2 hr2 c0 c1 c2 c3 f0 f1 f2 f3
 go_wp2_with fail
 obtain⟨W9,hW,⟨⟨e0,e1,e2⟩,m0,m1,m2⟩,hre,bZ,eu⟩:=HF.out
 have HW:=Lib.hid hW
 clear hW HF
 rw[←HW.out]
 refine bodyPost_ret (v:=.agg #[.int .i64 e.kind,.slice o1 e.set.length q1,.slice o2 e.parts.length q2]) (by simp[results,Tryz.results139,go_sem,e0,e1,e2,m0,m1,m2]) rfl ⟨hre,bZ,eu⟩
theorem A9 (p k d k2 : Nat) (s : ByteArray) (L : Its) (v : Value) (e : RE) (w : World) (h : XI w p s L k d v) (hrn : pk L k = 92) (hat : ∀ w, XI w p s L (k + 1) d v → Calls Tryz.prog 156 #[.pointer (some ⟨p, 0, none⟩), .int .i64 ((aA L s.size k : Nat) : Int)] w fun x w' => jv w w' e x ∧ Ch w w' p ∧ XI w' p s L k2 d v) :
 Calls Tryz.prog 139 #[.pointer (some ⟨p,0,none⟩)] w fun x w'=>jv w w' e x∧Ch w w' p∧XI w' p s L k2 d v:=by
 have dw:=h.lt
 have hA:=h.moved (ah (Below.refl _ _) (.cells #[.int .i64 0,.slice none 0 0,.slice none 0 0] 35))
 obtain⟨W0,hW0⟩:∃W0,W0=w.alloc (.cells #[.int .i64 0,.slice none 0 0,.slice none 0 0] 35):=⟨_,rfl⟩
 have hr0:W0.heap[w.heap.size]? = some (.cells #[.int .i64 0,.slice none 0 0,.slice none 0 0] 35 (0,0)):=by rw[hW0];exact heap_alloc_new w _
 have kg:W0.heap.size=w.heap.size+1:=by rw[hW0];simp
 have hcW:Ch w W0 p:=by rw[hW0];exact Ch.of (ah (Below.refl _ _) _)
 rw[←hW0] at hA
 obtain⟨⟨c0,c1,c2,c3⟩,f0,f1,f2,f3⟩:=aJ hA.hh
 have hkl:=fI hrn (by decide)
 have hx1:XI (W0.setCell ⟨p,2,none⟩ (.int .i64 ((k:Int)+1))) p s L (k+1) d v:=by
  have h9:=hA.at (k':=k+1) (by omega)
  rwa [show((k+1:Nat):Int)=(k:Int)+1 by omega] at h9
 obtain⟨W1,hW1⟩:∃W1,W1=W0.setCell ⟨p,2,none⟩ (.int .i64 ((k:Int)+1)):=⟨_,rfl⟩
 rw[←hW1] at hx1
 have hc1:Ch W0 W1 p:=by rw[hW1];exact Ch.set _ _ _ _
 have hs1:W1.heap.size=w.heap.size+1:=by rw[hW1,←kg];simp[World.setCell]
 have HX:=Lib.hid h
 have HA:=Lib.hid (And.intro hA (And.intro hr0 hcW))
 have H1:=Lib.hid (And.intro hx1 hc1)
 have HT:=Lib.hid hat
 have HW0:=Lib.hid hW0
 have HW1:=Lib.hid hW1
 have hk0:(0:Int)≤(k:Int):=by omega
 have hsm:=h.small
 have t40:(pk L k == 40)=false:=by rw[hrn];rfl
 have t91:(pk L k == 91)=false:=by rw[hrn];rfl
 have LQ:(pk L k == 92)=true:=by rw[hrn];rfl
 clear h hA hat hW0 hW1 hr0 hcW hx1 hc1 hrn
 go_enter Tryz.func139,Tryz.ntmps139
 go_wp2_with (with_reducible rw[←HW0.out])
 refine(dx p k k d s L _ _ HA.out.1).mono ?_
 rintro x w1 ⟨rfl,hw⟩
 have hw:=hw.symm
 subst hw
 go_wp2_with fail
 refine(bf p k k d s L _ _ HA.out.1).mono ?_
 rintro x w1 ⟨rfl,hw⟩
 have hw:=hw.symm
 subst hw
 go_wp2_with fail
 rw[←HW1.out]
 refine(HT.out _ H1.out.1).mono ?_
 rintro x w2 ⟨⟨sv,lv,rfl,hkp⟩,hch,hx2⟩
 obtain⟨⟨o1,q1,rfl⟩,⟨o2,q2,rfl⟩⟩:=hkp.here.form
 have hr2:=(H1.out.2.trans hch).block _ (show w.heap.size<W0.heap.size by omega) (by omega) |>.trans HA.out.2.1
 obtain⟨⟨d0,d1,d2⟩,g0,g1,g2⟩:=ay hr2
 have HF:=Lib.hid (qw HX.out hr2 rfl ((HA.out.2.2.trans H1.out.2).trans hch) hx2 hkp (fun j hj=>by omega))
 clear hkp hch hx2 hr2 c0 c1 c2 c3 f0 f1 f2 f3
 go_wp2_with fail
 obtain⟨W9,hW,⟨⟨e0,e1,e2⟩,m0,m1,m2⟩,hre,bZ,eu⟩:=HF.out
 have HW:=Lib.hid hW
 clear hW HF
 rw[←HW.out]
 refine bodyPost_ret (v:=.agg #[.int .i64 e.kind,.slice o1 e.set.length q1,.slice o2 e.parts.length q2]) (by simp[results,Tryz.results139,go_sem,e0,e1,e2,m0,m1,m2]) rfl ⟨hre,bZ,eu⟩
theorem EZ (p k d k1 k2:Nat) (s:ByteArray) (L:Its) (v:Value) (a e:RE) (w:World) (h:XI w p s L k d v) (P:Nat→RE→Nat→Prop) (hmono:∀k b k',P k b k'→k≤k') (h1:P k a k1) (hl:zw L P a k1 e k2)
 (hat:∀w k a k1,P k a k1→XI w p s L k d v→Calls Tryz.prog 69 #[.pointer (some ⟨p,0,none⟩)] w fun x w'=>jv w w' a x∧Ch w w' p∧XI w' p s L k1 d v) :
 Calls Tryz.prog 30 #[.pointer (some ⟨p,0,none⟩)] w fun x w'=>jv w w' e x∧Ch w w' p∧XI w' p s L k2 d v:=by
 have hlt:=h.lt
 have hA:=h.moved (ah (Below.refl _ _) (.cells #[.int .i64 0,.slice none 0 0,.slice none 0 0] 35))
 have HX:=Lib.hid h
 have HA:=Lib.hid hA
 have HT:=Lib.hid hat
 have HL:=Lib.hid hl
 have sP:=Lib.hid h1
 clear h hA hat hl h1
 go_enter Tryz.func30,Tryz.ntmps30
 go_wp2_with fail
 refine(HT.out _ _ _ _ sP.out HA.out).mono ?_
 rintro x w1 ⟨⟨sv,lv,rfl,hkp⟩,hch,hxi⟩
 obtain⟨⟨o1,q1,rfl⟩,⟨o2,q2,rfl⟩⟩:=hkp.here.form
 have hs1:w.heap.size<w1.heap.size:=by have:=hch.size;simp at this;omega
 have hr1:w1.heap[w.heap.size]? = some (.cells #[.int .i64 0,.slice none 0 0,.slice none 0 0] 35 (0,0)):=by rw[hch.block _ (by simp) (by omega)];exact heap_alloc_new w _
 have hpb:p≠w1.heap.size:=by omega
 have gT:=hxi.moved (ah (Below.refl _ _) (.cells #[.int .i64 a.kind,.slice o1 a.set.length q1,.slice o2 a.parts.length q2] 35))
 have hpi:qQ w (w1.alloc (.cells #[.int .i64 a.kind,.slice o1 a.set.length q1,.slice o2 a.parts.length q2] 35)) p w1.heap.size w.heap.size s L d k1 v a (.slice o1 a.set.length q1) (.slice o2 a.parts.length q2):=by
  refine⟨gT,?_,heap_alloc_new w1 _,⟨.int .i64 0,.slice none 0 0,.slice none 0 0,?_⟩,?_⟩
  · exact((Ch.of (ah (Below.refl _ _) _)).trans hch).trans (Ch.of (ah (Below.refl _ _) _))
  · rw[(ah (Below.refl w1.heap.size w1) _).block _ hs1];exact hr1
  · intro w' hag
    refine hkp w' ⟨hag.os,hag.tape,hag.output,by have:=hag.size;simp at this;omega,fun j hj hS=>?_⟩
    have hS':w.heap.size+1≤j:=by simpa using hS
    rw[hag.block j (by simp;omega) ⟨by omega,by omega⟩]
    exact(ah (Below.refl w1.heap.size w1) _).block j hj
 have oW:=Lib.hid hpi
 have hle:=hxi.le
 clear hpi gT hxi hch hkp hr1
 go_wp2_with fail
 go_loopg [] (L.length-k1) (fun g wx=>∃(a':RE) (ki:Nat) (o3 o4:Option Addr) (q3 q4:Nat),ki+g=L.length∧qQ w wx p w1.heap.size w.heap.size s L d ki v a' (.slice o3 a'.set.length q3) (.slice o4 a'.parts.length q4)∧zw L P a' ki e k2)
 case atStart=>exact⟨a,k1,_,_,_,_,by omega,oW.out,HL.out⟩
 case round=>
  obtain⟨a',ki,o3,o4,q3,q4,hkg,hpi,hpo⟩:=hrel
  have HP:=Lib.hid hpi
  obtain⟨⟨c0,c1,c2⟩,f0,f1,f2⟩:=ay hpi.hb
  clear hpi
  rcases hpo.inv with⟨hcnd,rfl,rfl⟩|⟨hcnd,nb,kj,hpp,gU⟩
  · have HN := Lib.hid hcnd
    clear hpo hcnd
    go_wp2_with fail
    refine(iA p ki d 124 s L v _ HP.out.x (by decide)).mono ?_
    rintro x w2 ⟨rfl,hc2,hx2⟩
    rw[if_neg HN.out] at hx2
    rw[decide_eq_false HN.out]
    have hb2:=(hc2.block _ (lt_of_some HP.out.hb) (fun e=>hpb e.symm)).trans HP.out.hb
    obtain⟨z0,z1,z2,hz⟩:=HP.out.hr
    have hr2:=(hc2.block _ (lt_of_some hz) (by omega)).trans hz
    have hbr:¬w1.heap.size=w.heap.size:=by omega
    obtain⟨⟨d0,d1,d2⟩,g0,g1,g2⟩:=ay hb2
    obtain⟨⟨r0,r1,r2⟩,x0,x1,x2⟩:=ay hr2
    have bM:=HP.out.kp.to (hc2.ag.sub (fun j _ hj=>by omega))
    have HK:=Lib.hid bM
    have HC:=Lib.hid (HP.out.c.trans hc2)
    have fD:=Lib.hid hx2
    have HR2:=Lib.hid hr2
    clear c0 c1 c2 f0 f1 f2 hb2 hz bM hc2 hx2 HP hr2
    go_wp2_with fail
    obtain⟨W9,hW⟩:∃W9,W9=((w2.setCell ⟨w.heap.size,0,none⟩ (.int .i64 a'.kind)).setCell ⟨w.heap.size,1,none⟩ (.slice o3 a'.set.length q3)).setCell ⟨w.heap.size,2,none⟩ (.slice o4 a'.parts.length q4):=⟨_,rfl⟩
    have h9:W9.heap[w.heap.size]? = some (.cells #[.int .i64 a'.kind,.slice o3 a'.set.length q3,.slice o4 a'.parts.length q4] 35 (0,0)):=by
     rw[hW];have:=HR2.out;simp[World.setCell,Array.getElem?_modify,this]
    have hag : Ag (fun j => w.heap.size < j ∧ j ≠ w1.heap.size) w2 W9 := by
     rw[hW]
     exact(((Ag.refl _ _).setCell (fun h=>Nat.lt_irrefl _ h.1) _).setCell (fun h=>Nat.lt_irrefl _ h.1) _).setCell (fun h=>Nat.lt_irrefl _ h.1) _
    have bZ:Ch w W9 p:=by rw[hW];exact((HC.out.aN (Nat.le_refl _)).aN (Nat.le_refl _)).aN (Nat.le_refl _)
    have eu:XI W9 p s L ki d v:=by rw[hW];exact HX.out.aL (HX.out.aL (HX.out.aL fD.out (Nat.le_refl _)) (Nat.le_refl _)) (Nat.le_refl _)
    rw[←hW]
    clear hW r0 r1 r2 x0 x1 x2 d0 d1 d2 g0 g1 g2
    obtain⟨⟨d0,d1,d2⟩,g0,g1,g2⟩:=ay h9
    refine bodyPost_ret (v:=.agg #[.int .i64 a'.kind,.slice o3 a'.set.length q3,.slice o4 a'.parts.length q4]) (by simp[results,Tryz.results30,go_sem,d0,d1,d2,g0,g1,g2]) rfl ?_
    exact⟨⟨_,_,rfl,(HK.out.to hag).sub (fun j _ hj=>Nat.le_of_lt hj.1)⟩,bZ,eu⟩
  · have HN := Lib.hid hcnd
    clear hpo hcnd
    go_wp2_with fail
    refine(iA p ki d 124 s L v _ HP.out.x (by decide)).mono ?_
    rintro x w2 ⟨rfl,hc2,hx2⟩
    rw[if_pos HN.out] at hx2
    have hki:ki<L.length:=fI HN.out (by decide)
    rw[decide_eq_true HN.out]
    have hb2:=(hc2.block _ (lt_of_some HP.out.hb) (fun e=>hpb e.symm)).trans HP.out.hb
    have hblt:=lt_of_some hb2
    obtain⟨z0,z1,z2,hz⟩:=HP.out.hr
    have hr2:=(hc2.block _ (lt_of_some hz) (by omega)).trans hz
    have je:=lt_of_some hr2
    have hbr:¬w1.heap.size=w.heap.size:=by omega
    obtain⟨⟨d0,d1,d2⟩,g0,g1,g2⟩:=ay hb2
    have bM:=HP.out.kp.to (hc2.ag.sub (fun j _ hj=>by omega))
    have HK:=Lib.hid bM
    have HC:=Lib.hid (HP.out.c.trans hc2)
    have fD:=Lib.hid hx2
    have HR2:=Lib.hid hr2
    have HB2:=Lib.hid hb2
    have oZ:=Lib.hid gU
    have gq:=Lib.hid hpp
    have zX:=hmono _ _ _ hpp
    have lG:¬w2.heap.size=w1.heap.size:=by omega
    clear c0 c1 c2 f0 f1 f2 hb2 hz bM hc2 hx2 hr2 HP gU hpp
    go_wp2_with fail
    go_region_law
     (go_simp;go_at_call 69;refine(HT.out _ _ _ _ gq.out (fD.out.moved (by repeat (first|exact Below.refl _ _|refine Below.drew ?_)))).mono ?_;rintro x w5 ⟨⟨Uc,Ud,rfl,hk5⟩,aK,hx5⟩;obtain⟨⟨o5,q5,rfl⟩,⟨o6,q6,rfl⟩⟩:=hk5.here.form;have hb5:=(aK.block _ hblt (fun e=>hpb e.symm)).trans HB2.out;obtain⟨⟨e0,e1,e2⟩,m0,m1,m2⟩:=ay hb5;have jw:w1.heap.size<w5.heap.size:=Nat.lt_of_lt_of_le hblt (show w2.heap.size≤w5.heap.size from aK.size);have sQ:¬w5.heap.size=w1.heap.size:=(fun e=>absurd jw (e▸Nat.lt_irrefl _));have sS:¬w1.heap.size=w5.heap.size:=(fun e=>absurd jw (e▸Nat.lt_irrefl _)))
    all_goals (
     have jO:=(aK.block _ je (fun e=>by omega)).trans HR2.out
     have jy:=HK.out.to (((Ag.refl _ w2).drew).trans (aK.ag.sub (fun j _ hj=>by omega)))
     have jP:=Lib.hid (qQ.two (b':=nb) (n5:=w2.heap.size) 4 HX.out (HC.out.trans (Ch.trans (Ch.of (Below.refl _ _).drew) aK)) hx5 hb5 jO jy (hk5.sub (fun j _ hj=>hj)) (by omega) (Nat.le_refl _) (by omega) hblt)
     have hkl:=hx5.le
     clear hb5 jO jy e0 e1 e2 m0 m1 m2 d0 d1 d2 g0 g1 g2 aK hx5 hk5
     try go_wp2_with fail
     go_roundg (L.length-kj)
     case measure=>omega
     case rel=>exact⟨.mk 4 [] [a',nb],kj,none,some ⟨w5.heap.size,0,none⟩,0,2,by omega,jP.out,oZ.out⟩)
theorem zy (p k d a k1:Nat) (s:ByteArray) (L:Its) (v:Value) (e:RE) (w:World) (h:XI w p s L k d v) (hd:d<40) (kG:pk L k1=41)
 (hat:∀w,XI w p s L k (d+1) v→Calls Tryz.prog 30 #[.pointer (some ⟨p,0,none⟩)] w fun x w'=>jv w w' e x∧Ch w w' p∧XI w' p s L k1 (d+1) v) :
 Calls Tryz.prog 154 #[.pointer (some ⟨p,0,none⟩),.int .i64 a] w fun x w'=>jv w w' e x∧Ch w w' p∧XI w' p s L (k1+1) d v:=by
 have dw:=h.lt
 have hA:=h.moved (ah (Below.refl _ _) (.cells #[.int .i64 0,.slice none 0 0,.slice none 0 0] 35))
 obtain⟨W0,hW0⟩:∃W0,W0=w.alloc (.cells #[.int .i64 0,.slice none 0 0,.slice none 0 0] 35):=⟨_,rfl⟩
 have hr0:W0.heap[w.heap.size]? = some (.cells #[.int .i64 0,.slice none 0 0,.slice none 0 0] 35 (0,0)):=by rw[hW0];exact heap_alloc_new w _
 have kg:W0.heap.size=w.heap.size+1:=by rw[hW0];simp
 have hcW:Ch w W0 p:=by rw[hW0];exact Ch.of (ah (Below.refl _ _) _)
 rw[←hW0] at hA
 obtain⟨⟨c0,c1,c2,c3⟩,f0,f1,f2,f3⟩:=aJ hA.hh
 have hx1:XI (W0.setCell ⟨p,3,none⟩ (.int .i64 ((d:Int)+1))) p s L k (d+1) v:=by
  have h9:=hA.deep (d':=d+1)
  rwa [show((d+1:Nat):Int)=(d:Int)+1 by omega] at h9
 obtain⟨W1,hW1⟩:∃W1,W1=W0.setCell ⟨p,3,none⟩ (.int .i64 ((d:Int)+1)):=⟨_,rfl⟩
 rw[←hW1] at hx1
 have hc1:Ch W0 W1 p:=by rw[hW1];exact Ch.set _ _ _ _
 have hs1:W1.heap.size=w.heap.size+1:=by rw[hW1,←kg];simp[World.setCell]
 have HX:=Lib.hid h
 have HA:=Lib.hid (And.intro hA (And.intro hr0 hcW))
 have H1:=Lib.hid (And.intro hx1 hc1)
 have HT:=Lib.hid hat
 have LV:=Lib.hid kG
 have HW0:=Lib.hid hW0
 have HW1:=Lib.hid hW1
 have t1:((d:Int) == 40)=false:=by simp;omega
 have t2:(d == 40)=false:=by simp;omega
 have hd0:(0:Int)≤(d:Int):=by omega
 clear h hA hat kG hW0 hW1 hr0 hcW hx1 hc1
 go_enter Tryz.func154,Tryz.ntmps154
 go_wp2_with (with_reducible rw[←HW0.out])
 rw[←HW1.out]
 refine(HT.out _ H1.out.1).mono ?_
 rintro x w2 ⟨⟨sv,lv,rfl,hkp⟩,hch,hx2⟩
 obtain⟨⟨o1,q1,rfl⟩,⟨o2,q2,rfl⟩⟩:=hkp.here.form
 have hr2:=(H1.out.2.trans hch).block _ (show w.heap.size<W0.heap.size by omega) (by omega) |>.trans HA.out.2.1
 have hz2:w.heap.size<w2.heap.size:=lt_of_some hr2
 have hbx:¬w2.heap.size=w.heap.size:=by omega
 have hx3:=hx2.moved (ah (Below.refl _ _) (.cells #[.int .i64 e.kind,.slice o1 e.set.length q1,.slice o2 e.parts.length q2] 35))
 have hb3:=heap_alloc_new w2 (.cells #[.int .i64 e.kind,.slice o1 e.set.length q1,.slice o2 e.parts.length q2] 35)
 have H2:=Lib.hid (And.intro hkp (And.intro hch (And.intro hx3 (And.intro hr2 hb3))))
 clear hkp hch hx2 hx3 hr2 hb3 c0 c1 c2 c3 f0 f1 f2 f3
 go_wp2_with fail
 refine(iA p k1 (d+1) 41 s L _ _ H2.out.2.2.1 (by decide)).mono ?_
 rintro x w4 ⟨rfl,hc4,hx4⟩
 rw[if_pos LV.out] at hx4
 rw[decide_eq_true LV.out]
 obtain⟨⟨c0,c1,c2,c3⟩,f0,f1,f2,f3⟩:=aJ hx4.hh
 have hb4:=(hc4.block _ (lt_of_some H2.out.2.2.2.2) (by omega)).trans H2.out.2.2.2.2
 obtain⟨⟨d0,d1,d2⟩,g0,g1,g2⟩:=ay hb4
 have hr4:w4.heap[w.heap.size]? = some (.cells #[.int .i64 0,.slice none 0 0,.slice none 0 0] 35 (0,0)):=by
  rw[hc4.block _ (by simp;omega) (by omega),(ah (Below.refl w2.heap.size w2) _).block _ hz2]
  exact H2.out.2.2.2.1
 have hq4:w2.heap.size<w4.heap.size:=lt_of_some hb4
 obtain⟨⟨r0,r1,r2⟩,x0,x1,x2⟩:=ay hr4
 have hpr:¬w.heap.size=p:=by omega
 have abd:¬p=w.heap.size:=by omega
 have hpe:¬w2.heap.size=p:=by omega
 have abe:¬p=w2.heap.size:=by omega
 have H4:=Lib.hid (And.intro hc4 (And.intro hx4 hr4))
 have ex:((d+1:Nat):Int)-1=(d:Int):=by omega
 have ZR:(d:Int)+1-1=(d:Int):=by omega
 have hx6:XI (w4.setCell ⟨p,3,none⟩ (.int .i64 d)) p s L (k1+1) d v:=hx4.deep
 obtain⟨W6,bA⟩:∃W6,W6=w4.setCell ⟨p,3,none⟩ (.int .i64 d):=⟨_,rfl⟩
 rw[←bA] at hx6
 have hc6:Ch w4 W6 p:=by rw[bA];exact Ch.set _ _ _ _
 have X0:=(hc6.block _ (lt_of_some hr4) (by omega)).trans hr4
 have X3 : KP (fun j => W1.heap.size ≤ j) W6 (fun w3 => bI w3 e (.slice o1 e.set.length q1) (.slice o2 e.parts.length q2)) := by
  refine H2.out.1.to (((Ag.of (ah (Below.refl _ _) _)).trans (hc4.ag.sub (fun j _ hj=>?_))).trans (hc6.ag.sub (fun j _ hj=>?_)))
  all_goals omega
 have HF:=Lib.hid (qw HX.out X0 rfl (((HA.out.2.2.trans H1.out.2).trans ((H2.out.2.1).trans (Ch.of (ah (Below.refl _ _) _)))).trans (hc4.trans hc6)) hx6 X3 (fun j hj=>by omega))
 have kH:=Lib.hid bA
 clear hc4 hx4 hb4 hr4 hx6 hc6 X0 X3 bA ZR
 have EX:=Lib.hid ex
 clear ex
 go_wp2_with fail
 try simp only[show((d+1:Nat):Int)-1=(d:Int) by omega]
 rw[←kH.out]
 obtain⟨W9,hW,⟨⟨e0,e1,e2⟩,m0,m1,m2⟩,hre,bZ,eu⟩:=HF.out
 have HW:=Lib.hid hW
 clear hW HF
 rw[←HW.out]
 refine bodyPost_ret (v:=.agg #[.int .i64 e.kind,.slice o1 e.set.length q1,.slice o2 e.parts.length q2]) (by simp[results,Tryz.results154,go_sem,e0,e1,e2,m0,m1,m2]) rfl ⟨hre,bZ,eu⟩
theorem Ba (p k d:Nat) (s:ByteArray) (L:Its) (v:Value) (w:World) (h:XI w p s L k d v) (hrn:0≤pk L k) (n40:pk L k≠40) (n91:pk L k≠91) (n92:pk L k≠92) (n46:pk L k≠46) :
 Calls Tryz.prog 139 #[.pointer (some ⟨p,0,none⟩)] w fun x w'=>jv w w' (.mk 2 [(pk L k,pk L k)] []) x∧Ch w w' p∧XI w' p s L (k+1) d v:=by
 have dw:=h.lt
 have hA:=h.moved (ah (Below.refl _ _) (.cells #[.int .i64 0,.slice none 0 0,.slice none 0 0] 35))
 obtain⟨W0,hW0⟩:∃W0,W0=w.alloc (.cells #[.int .i64 0,.slice none 0 0,.slice none 0 0] 35):=⟨_,rfl⟩
 have hr0:W0.heap[w.heap.size]? = some (.cells #[.int .i64 0,.slice none 0 0,.slice none 0 0] 35 (0,0)):=by rw[hW0];exact heap_alloc_new w _
 have kg:W0.heap.size=w.heap.size+1:=by rw[hW0];simp
 have hcW:Ch w W0 p:=by rw[hW0];exact Ch.of (ah (Below.refl _ _) _)
 rw[←hW0] at hA
 obtain⟨⟨c0,c1,c2,c3⟩,f0,f1,f2,f3⟩:=aJ hA.hh
 have hkl:=fI rfl hrn
 have hx1:XI (W0.setCell ⟨p,2,none⟩ (.int .i64 ((k:Int)+1))) p s L (k+1) d v:=by
  have h9:=hA.at (k':=k+1) (by omega)
  rwa [show((k+1:Nat):Int)=(k:Int)+1 by omega] at h9
 obtain⟨W1,hW1⟩:∃W1,W1=W0.setCell ⟨p,2,none⟩ (.int .i64 ((k:Int)+1)):=⟨_,rfl⟩
 rw[←hW1] at hx1
 have hc1:Ch W0 W1 p:=by rw[hW1];exact Ch.set _ _ _ _
 have hs1:W1.heap.size=w.heap.size+1:=by rw[hW1,←kg];simp[World.setCell]
 have HX:=Lib.hid h
 have HA:=Lib.hid (And.intro hA (And.intro hr0 hcW))
 have H1:=Lib.hid (And.intro hx1 hc1)
 have HW0:=Lib.hid hW0
 have HW1:=Lib.hid hW1
 have hk0:(0:Int)≤(k:Int):=by omega
 have hsm:=h.small
 have t40:(pk L k == 40)=false:=by simpa using n40
 have t91:(pk L k == 91)=false:=by simpa using n91
 have LQ:(pk L k == 92)=false:=by simpa using n92
 have t46:(pk L k == 46)=false:=by simpa using n46
 clear h hA hW0 hW1 hr0 hcW hx1 hc1 hrn n40 n91 n92 n46
 go_enter Tryz.func139,Tryz.ntmps139
 go_wp2_with (with_reducible rw[←HW0.out])
 refine(dx p k k d s L _ _ HA.out.1).mono ?_
 rintro x w1 ⟨rfl,hw⟩
 have hw:=hw.symm
 subst hw
 go_wp2_with fail
 refine(bf p k k d s L _ _ HA.out.1).mono ?_
 rintro x w1 ⟨rfl,hw⟩
 have hw:=hw.symm
 subst hw
 go_wp2_with fail
 rw[←HW1.out]
 have hbel:=ah (Below.refl W1.heap.size W1) (.cells #[.int .i32 (pk L k),.int .i32 (pk L k)] 79)
 rw[←hs1]
 refine(kP (some ⟨W1.heap.size,0,none⟩) 1 1 _).mono ?_
 rintro x w2 ⟨rfl,hb2⟩
 have hch:Ch W1 w2 p:=(Ch.of hbel).trans (Ch.of hb2)
 have hx2:=(H1.out.1.moved hbel).moved hb2
 have hq2:w2.heap[W1.heap.size]? = some (.cells #[.int .i32 (pk L k),.int .i32 (pk L k)] 79 (0,0)):=by
  rw[hb2.block _ (by simp)];exact heap_alloc_new W1 _
 have hkp : KP (fun j => W1.heap.size ≤ j) w2 (fun w3 => bI w3 (.mk 2 [(pk L k, pk L k)] []) (.slice (some ⟨W1.heap.size, 0, none⟩) 1 1) (.slice none 0 0)) := by
  refine(KP.block hq2 (Nat.le_refl _)).mono (fun w3 h3=>oz ⟨_,1,rfl,Nat.le_refl _,by show(1:Nat)≤maxLen;decide,.inr ⟨W1.heap.size,0,rfl,lt_of_some h3,fun j u hu=>?_⟩⟩)
  unfold World.cell?
  rw[show(⟨W1.heap.size,0+j,none⟩:Addr).block=W1.heap.size from rfl,h3]
  match j,hu with
  | 0,h=>simpa [flatK] using h
  | 1,h=>simpa [flatK] using h
  | j+2,h=>simp[flatK] at h
 have hr2:=(H1.out.2.trans hch).block _ (show w.heap.size<W0.heap.size by omega) (by omega) |>.trans HA.out.2.1
 obtain⟨⟨d0,d1,d2⟩,g0,g1,g2⟩:=ay hr2
 have HF:=Lib.hid (qw HX.out hr2 rfl ((HA.out.2.2.trans H1.out.2).trans hch) hx2 hkp (fun j hj=>by omega))
 clear hkp hch hx2 hr2 hq2 c0 c1 c2 c3 f0 f1 f2 f3 hbel hb2 hs1 kg
 go_wp2_with fail
 obtain⟨W9,hW,⟨⟨e0,e1,e2⟩,m0,m1,m2⟩,hre,bZ,eu⟩:=HF.out
 have HW:=Lib.hid hW
 clear hW HF
 rw[show(.int .i64 2:Value)=.int .i64 (RE.mk 2 [(pk L k,pk L k)] []).kind from rfl,←HW.out]
 refine bodyPost_ret (v:=.agg #[.int .i64 2,.slice (some ⟨W1.heap.size,0,none⟩) 1 1,.slice none 0 0]) (by simp[results,Tryz.results139,go_sem,e0,e1,e2,m0,m1,m2,RE.kind]) rfl ⟨hre,bZ,eu⟩
theorem IL (p k d a z:Nat) (c:Int) (s:ByteArray) (L:Its) (v:Value) (w:World) (h:XI w p s L k d v) (hd:d<40)
 (hat:∀w,XI w p s L k (d+1) v→Calls Tryz.prog 30 #[.pointer (some ⟨p,0,none⟩)] w fun x w'=>x=dL c z∧Ch w w' p) :
 Calls Tryz.prog 154 #[.pointer (some ⟨p,0,none⟩),.int .i64 a] w fun x w'=>x=dL c z∧Ch w w' p:=by
 have dw:=h.lt
 have hA:=h.moved (ah (Below.refl _ _) (.cells #[.int .i64 0,.slice none 0 0,.slice none 0 0] 35))
 obtain⟨W0,hW0⟩:∃W0,W0=w.alloc (.cells #[.int .i64 0,.slice none 0 0,.slice none 0 0] 35):=⟨_,rfl⟩
 have hr0:W0.heap[w.heap.size]? = some (.cells #[.int .i64 0,.slice none 0 0,.slice none 0 0] 35 (0,0)):=by rw[hW0];exact heap_alloc_new w _
 have kg:W0.heap.size=w.heap.size+1:=by rw[hW0];simp
 have hcW:Ch w W0 p:=by rw[hW0];exact Ch.of (ah (Below.refl _ _) _)
 rw[←hW0] at hA
 obtain⟨⟨c0,c1,c2,c3⟩,f0,f1,f2,f3⟩:=aJ hA.hh
 have hx1:XI (W0.setCell ⟨p,3,none⟩ (.int .i64 ((d:Int)+1))) p s L k (d+1) v:=by
  have h9:=hA.deep (d':=d+1)
  rwa [show((d+1:Nat):Int)=(d:Int)+1 by omega] at h9
 obtain⟨W1,hW1⟩:∃W1,W1=W0.setCell ⟨p,3,none⟩ (.int .i64 ((d:Int)+1)):=⟨_,rfl⟩
 rw[←hW1] at hx1
 have hc1:Ch W0 W1 p:=by rw[hW1];exact Ch.set _ _ _ _
 have hs1:W1.heap.size=w.heap.size+1:=by rw[hW1,←kg];simp[World.setCell]
 have HX:=Lib.hid h
 have HA:=Lib.hid (And.intro hA (And.intro hr0 hcW))
 have H1:=Lib.hid (And.intro hx1 hc1)
 have HT:=Lib.hid hat
 have HW0:=Lib.hid hW0
 have HW1:=Lib.hid hW1
 have t1:((d:Int) == 40)=false:=by simp;omega
 have t2:(d == 40)=false:=by simp;omega
 have hd0:(0:Int)≤(d:Int):=by omega
 clear h hA hat hW0 hW1 hr0 hcW hx1 hc1
 go_enter Tryz.func154,Tryz.ntmps154
 go_wp2_with (with_reducible rw[←HW0.out])
 rw[←HW1.out]
 refine(HT.out _ H1.out.1).mono ?_
 rintro x w2 ⟨rfl,hch⟩
 have HF:=Lib.hid ((HA.out.2.2.trans H1.out.2).trans hch)
 clear hch c0 c1 c2 c3 f0 f1 f2 f3
 go_wp2_with fail
 exact⟨rfl,rfl,HF.out⟩
theorem xI (p k d a k1:Nat) (s:ByteArray) (L:Its) (v:Value) (e:RE) (w:World) (h:XI w p s L k d v) (hd:d<40) (kG:pk L k1≠41)
 (hat:∀w,XI w p s L k (d+1) v→Calls Tryz.prog 30 #[.pointer (some ⟨p,0,none⟩)] w fun x w'=>jv w w' e x∧Ch w w' p∧XI w' p s L k1 (d+1) v) :
 Calls Tryz.prog 154 #[.pointer (some ⟨p,0,none⟩),.int .i64 a] w fun x w'=>x=dL 3 (aA L s.size k1)∧Ch w w' p:=by
 have dw:=h.lt
 have hA:=h.moved (ah (Below.refl _ _) (.cells #[.int .i64 0,.slice none 0 0,.slice none 0 0] 35))
 obtain⟨W0,hW0⟩:∃W0,W0=w.alloc (.cells #[.int .i64 0,.slice none 0 0,.slice none 0 0] 35):=⟨_,rfl⟩
 have hr0:W0.heap[w.heap.size]? = some (.cells #[.int .i64 0,.slice none 0 0,.slice none 0 0] 35 (0,0)):=by rw[hW0];exact heap_alloc_new w _
 have kg:W0.heap.size=w.heap.size+1:=by rw[hW0];simp
 have hcW:Ch w W0 p:=by rw[hW0];exact Ch.of (ah (Below.refl _ _) _)
 rw[←hW0] at hA
 obtain⟨⟨c0,c1,c2,c3⟩,f0,f1,f2,f3⟩:=aJ hA.hh
 have hx1:XI (W0.setCell ⟨p,3,none⟩ (.int .i64 ((d:Int)+1))) p s L k (d+1) v:=by
  have h9:=hA.deep (d':=d+1)
  rwa [show((d+1:Nat):Int)=(d:Int)+1 by omega] at h9
 obtain⟨W1,hW1⟩:∃W1,W1=W0.setCell ⟨p,3,none⟩ (.int .i64 ((d:Int)+1)):=⟨_,rfl⟩
 rw[←hW1] at hx1
 have hc1:Ch W0 W1 p:=by rw[hW1];exact Ch.set _ _ _ _
 have hs1:W1.heap.size=w.heap.size+1:=by rw[hW1,←kg];simp[World.setCell]
 have HX:=Lib.hid h
 have HA:=Lib.hid (And.intro hA (And.intro hr0 hcW))
 have H1:=Lib.hid (And.intro hx1 hc1)
 have HT:=Lib.hid hat
 have LV:=Lib.hid kG
 have HW0:=Lib.hid hW0
 have HW1:=Lib.hid hW1
 have t1:((d:Int) == 40)=false:=by simp;omega
 have t2:(d == 40)=false:=by simp;omega
 have hd0:(0:Int)≤(d:Int):=by omega
 clear h hA hat kG hW0 hW1 hr0 hcW hx1 hc1
 go_enter Tryz.func154,Tryz.ntmps154
 go_wp2_with (with_reducible rw[←HW0.out])
 rw[←HW1.out]
 refine(HT.out _ H1.out.1).mono ?_
 rintro x w2 ⟨⟨sv,lv,rfl,hkp⟩,hch,hx2⟩
 obtain⟨⟨o1,q1,rfl⟩,⟨o2,q2,rfl⟩⟩:=hkp.here.form
 have hr2:=(H1.out.2.trans hch).block _ (show w.heap.size<W0.heap.size by omega) (by omega) |>.trans HA.out.2.1
 have hz2:w.heap.size<w2.heap.size:=lt_of_some hr2
 have hbx:¬w2.heap.size=w.heap.size:=by omega
 have hx3:=hx2.moved (ah (Below.refl _ _) (.cells #[.int .i64 e.kind,.slice o1 e.set.length q1,.slice o2 e.parts.length q2] 35))
 have hb3:=heap_alloc_new w2 (.cells #[.int .i64 e.kind,.slice o1 e.set.length q1,.slice o2 e.parts.length q2] 35)
 have H2:=Lib.hid (And.intro hkp (And.intro hch (And.intro hx3 (And.intro hr2 hb3))))
 clear hkp hch hx2 hx3 hr2 hb3 c0 c1 c2 c3 f0 f1 f2 f3
 go_wp2_with fail
 refine(iA p k1 (d+1) 41 s L _ _ H2.out.2.2.1 (by decide)).mono ?_
 rintro x w4 ⟨rfl,hc4,hx4⟩
 rw[if_neg LV.out] at hx4
 rw[decide_eq_false LV.out]
 have ZT:=Lib.hid hx4
 have HF:=Lib.hid (((HA.out.2.2.trans H1.out.2).trans ((H2.out.2.1).trans (Ch.of (ah (Below.refl _ _) _)))).trans hc4)
 clear hx4 hc4
 go_wp2_with fail
 refine(vZ p k1 (d+1) s L _ _ ZT.out).mono ?_
 rintro x w5 ⟨rfl,Ug⟩
 have Ug:=Ug.symm
 subst Ug
 go_wp2_with fail
 exact⟨rfl,rfl,HF.out⟩
theorem Et (p k d a:Nat) (s:ByteArray) (L:Its) (v:Value) (w:World) (h:XI w p s L k d v) (hd:d=40) :
 Calls Tryz.prog 154 #[.pointer (some ⟨p,0,none⟩),.int .i64 a] w fun x w'=>x=dL 7 a∧Ch w w' p:=by
 have dw:=h.lt
 have hA:=h.moved (ah (Below.refl _ _) (.cells #[.int .i64 0,.slice none 0 0,.slice none 0 0] 35))
 obtain⟨W0,hW0⟩:∃W0,W0=w.alloc (.cells #[.int .i64 0,.slice none 0 0,.slice none 0 0] 35):=⟨_,rfl⟩
 have hr0:W0.heap[w.heap.size]? = some (.cells #[.int .i64 0,.slice none 0 0,.slice none 0 0] 35 (0,0)):=by rw[hW0];exact heap_alloc_new w _
 have kg:W0.heap.size=w.heap.size+1:=by rw[hW0];simp
 have hcW:Ch w W0 p:=by rw[hW0];exact Ch.of (ah (Below.refl _ _) _)
 rw[←hW0] at hA
 obtain⟨⟨c0,c1,c2,c3⟩,f0,f1,f2,f3⟩:=aJ hA.hh
 have HA:=Lib.hid (And.intro hA (And.intro hr0 hcW))
 have HW0:=Lib.hid hW0
 have t1:((d:Int) == 40)=true:=by simp;omega
 have t2:(d == 40)=true:=by simp;omega
 clear h hA hW0 hr0 hcW
 go_enter Tryz.func154,Tryz.ntmps154
 go_wp2_with (with_reducible rw[←HW0.out])
 exact⟨rfl,rfl,HA.out.2.2⟩
theorem Fe (p k d z:Nat) (c:Int) (s:ByteArray) (L:Its) (v:Value) (w:World) (h:XI w p s L k d v)
 (hat:∀w,XI w p s L k d v→Calls Tryz.prog 139 #[.pointer (some ⟨p,0,none⟩)] w fun x w'=>x=dL c z∧Ch w w' p) :
 Calls Tryz.prog 111 #[.pointer (some ⟨p,0,none⟩)] w fun x w'=>x=dL c z∧Ch w w' p:=by
 have hlt:=h.lt
 have hA:=h.moved (ah (Below.refl _ _) (.cells #[.int .i64 0,.slice none 0 0,.slice none 0 0] 35))
 have HX:=Lib.hid h
 have HA:=Lib.hid hA
 have HT:=Lib.hid hat
 clear h hA hat
 go_enter Tryz.func111,Tryz.ntmps111
 go_wp2_with fail
 refine(HT.out _ HA.out).mono ?_
 rintro x w1 ⟨rfl,hch⟩
 have HF:=Lib.hid ((Ch.of (ah (Below.refl _ _) (.cells #[.int .i64 0,.slice none 0 0,.slice none 0 0] 35))).trans hch)
 clear hch
 go_wp2_with fail
 exact⟨rfl,rfl,HF.out⟩
theorem Dw (p k d z:Nat) (c:Int) (s:ByteArray) (L:Its) (v:Value) (w:World) (h:XI w p s L k d v)
 (hat:∀w,XI w p s L k d v→Calls Tryz.prog 69 #[.pointer (some ⟨p,0,none⟩)] w fun x w'=>x=dL c z∧Ch w w' p) :
 Calls Tryz.prog 30 #[.pointer (some ⟨p,0,none⟩)] w fun x w'=>x=dL c z∧Ch w w' p:=by
 have hlt:=h.lt
 have hA:=h.moved (ah (Below.refl _ _) (.cells #[.int .i64 0,.slice none 0 0,.slice none 0 0] 35))
 have HA:=Lib.hid hA
 have HT:=Lib.hid hat
 have xu:=Lib.hid (Ch.of (p:=p) (ah (Below.refl w.heap.size w) (.cells #[.int .i64 0,.slice none 0 0,.slice none 0 0] 35)))
 clear h hA hat
 go_enter Tryz.func30,Tryz.ntmps30
 go_wp2_with fail
 refine(HT.out _ HA.out).mono ?_
 rintro x w1 ⟨rfl,hch⟩
 have HF:=Lib.hid (xu.out.trans hch)
 clear hch
 go_wp2_with fail
 exact⟨rfl,rfl,HF.out⟩
theorem Fb (p k d z:Nat) (c:Int) (s:ByteArray) (L:Its) (v:Value) (w:World) (h:XI w p s L k d v) (h128:Sc L) (zW:Pm.eG (pk L k)=true)
 (hat:∀w,XI w p s L k d v→Calls Tryz.prog 111 #[.pointer (some ⟨p,0,none⟩)] w fun x w'=>x=dL c z∧Ch w w' p) :
 Calls Tryz.prog 69 #[.pointer (some ⟨p,0,none⟩)] w fun x w'=>x=dL c z∧Ch w w' p:=by
 have hlt:=h.lt
 have hA:=h.moved (ah (Below.refl _ _) (.cells #[.int .i64 0,.slice none 0 0,.slice none 0 0] 35))
 have HA:=Lib.hid hA
 have HT:=Lib.hid hat
 have xu:=Lib.hid (Ch.of (p:=p) (ah (Below.refl w.heap.size w) (.cells #[.int .i64 0,.slice none 0 0,.slice none 0 0] 35)))
 clear h hA hat
 go_enter Tryz.func69,Tryz.ntmps69
 go_wp2_with fail
 refine(iI p k d s L v _ HA.out h128).mono ?_
 rintro x wz ⟨rfl,hwz⟩
 rw[zW]
 have Jr:=Lib.hid (And.intro (HA.out.moved hwz) (xu.out.trans (Ch.of hwz)))
 clear hwz
 go_wp2_with fail
 refine(HT.out _ Jr.out.1).mono ?_
 rintro x w1 ⟨rfl,hch⟩
 have HF:=Lib.hid (Jr.out.2.trans hch)
 clear hch
 go_wp2_with fail
 exact⟨rfl,rfl,HF.out⟩
theorem qJ (p k d z : Nat) (c : Int) (s : ByteArray) (L : Its) (v : Value) (w : World) (h : XI w p s L k d v) (hrn : pk L k = 40) (hat : ∀ w, XI w p s L (k + 1) d v → Calls Tryz.prog 154 #[.pointer (some ⟨p, 0, none⟩), .int .i64 ((aA L s.size k : Nat) : Int)] w fun x w' => x = dL c z ∧ Ch w w' p) :
 Calls Tryz.prog 139 #[.pointer (some ⟨p,0,none⟩)] w fun x w'=>x=dL c z∧Ch w w' p:=by
 have dw:=h.lt
 have hA:=h.moved (ah (Below.refl _ _) (.cells #[.int .i64 0,.slice none 0 0,.slice none 0 0] 35))
 obtain⟨W0,hW0⟩:∃W0,W0=w.alloc (.cells #[.int .i64 0,.slice none 0 0,.slice none 0 0] 35):=⟨_,rfl⟩
 have hr0:W0.heap[w.heap.size]? = some (.cells #[.int .i64 0,.slice none 0 0,.slice none 0 0] 35 (0,0)):=by rw[hW0];exact heap_alloc_new w _
 have kg:W0.heap.size=w.heap.size+1:=by rw[hW0];simp
 have hcW:Ch w W0 p:=by rw[hW0];exact Ch.of (ah (Below.refl _ _) _)
 rw[←hW0] at hA
 obtain⟨⟨c0,c1,c2,c3⟩,f0,f1,f2,f3⟩:=aJ hA.hh
 have hkl:=fI hrn (by decide)
 have hx1:XI (W0.setCell ⟨p,2,none⟩ (.int .i64 ((k:Int)+1))) p s L (k+1) d v:=by
  have h9:=hA.at (k':=k+1) (by omega)
  rwa [show((k+1:Nat):Int)=(k:Int)+1 by omega] at h9
 obtain⟨W1,hW1⟩:∃W1,W1=W0.setCell ⟨p,2,none⟩ (.int .i64 ((k:Int)+1)):=⟨_,rfl⟩
 rw[←hW1] at hx1
 have hc1:Ch W0 W1 p:=by rw[hW1];exact Ch.set _ _ _ _
 have hs1:W1.heap.size=w.heap.size+1:=by rw[hW1,←kg];simp[World.setCell]
 have HX:=Lib.hid h
 have HA:=Lib.hid (And.intro hA (And.intro hr0 hcW))
 have H1:=Lib.hid (And.intro hx1 hc1)
 have HT:=Lib.hid hat
 have HW0:=Lib.hid hW0
 have HW1:=Lib.hid hW1
 have hk0:(0:Int)≤(k:Int):=by omega
 have hsm:=h.small
 have t40:(pk L k == 40)=true:=by rw[hrn];rfl
 clear h hA hat hW0 hW1 hr0 hcW hx1 hc1 hrn
 go_enter Tryz.func139,Tryz.ntmps139
 go_wp2_with (with_reducible rw[←HW0.out])
 refine(dx p k k d s L _ _ HA.out.1).mono ?_
 rintro x w1 ⟨rfl,hw⟩
 have hw:=hw.symm
 subst hw
 go_wp2_with fail
 refine(bf p k k d s L _ _ HA.out.1).mono ?_
 rintro x w1 ⟨rfl,hw⟩
 have hw:=hw.symm
 subst hw
 go_wp2_with fail
 rw[←HW1.out]
 refine(HT.out _ H1.out.1).mono ?_
 rintro x w2 ⟨rfl,hch⟩
 have HF:=Lib.hid ((HA.out.2.2.trans H1.out.2).trans hch)
 clear hch c0 c1 c2 c3 f0 f1 f2 f3
 go_wp2_with fail
 exact⟨rfl,rfl,HF.out⟩
theorem Og {p k d z:Nat} {c:Int} {s:ByteArray} {L:Its} (hS:Sc L) (h:pk L k=40)
 (hat:∀v w,XI w p s L (k+1) d v→Calls Tryz.prog 154 #[.pointer (some ⟨p,0,none⟩),.int .i64 ((aA L s.size k:Nat):Int)] w fun x w'=>x=dL c z∧Ch w w' p) :
 ∀v w,XI w p s L k d v→Calls Tryz.prog 30 #[.pointer (some ⟨p,0,none⟩)] w fun x w'=>x=dL c z∧Ch w w' p:=fun v w hx=>
 Dw p k d z c s L v w hx (fun w hx=>Fb p k d z c s L v w hx hS (by rw[h];decide) (fun w hx=>Fe p k d z c s L v w hx (fun w hx=>qJ p k d z c s L v w hx h (fun w hx=>hat v w hx))))
end Go.Proofs.YtfkmajjgkdjncaaGreatDoor
