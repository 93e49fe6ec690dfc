import Derived.Test.YtfkmajjgkdjncaaGreatDoorPaCls
set_option linter.unusedVariables false
set_option linter.unusedSimpArgs false
set_option maxHeartbeats 4000000
set_option maxRecDepth 100000
namespace Go.Proofs.YtfkmajjgkdjncaaGreatDoor
open Go.RowKit De Wd
theorem IG (p k d a j:Nat) (s:ByteArray) (L:Its) (v:Value) (S:List (Int×Int)) (w:World) (h:XI w p s L k d v) (hu:pk L k=117) (hs:Pm.jI L (k+1) j) (hj:j<L.length)
 (hab:a≤aA L s.size (j+1)) (hb:aA L s.size (j+1)≤s.size) (hsz:aA L s.size (j+1)-a≤100000) (hc:gP s a (aA L s.size (j+1))=.ok S) :
 Calls Tryz.prog 156 #[.pointer (some ⟨p,0,none⟩),.int .i64 a] w fun x w'=>jv w w' (.mk 2 S []) x∧Ch w w' p∧XI w' p s L (j+1) d v:=by
 have hsm:=h.small
 have hle:=h.le
 have dw:=h.lt
 have hkl:=fI hu (by decide)
 obtain⟨ov,cv,hv,_⟩:=h.row
 have hA:=h.moved (ah (Below.refl _ _) (.cells #[.int .i64 0,.slice none 0 0,.slice none 0 0] 35))
 obtain⟨W0,hW0⟩:∃W0,W0=w.alloc (.cells #[.int .i64 0,.slice none 0 0,.slice none 0 0] 35):=⟨_,rfl⟩
 have hr0:W0.heap[w.heap.size]? = some (.cells #[.int .i64 0,.slice none 0 0,.slice none 0 0] 35 (0,0)):=by rw[hW0];exact heap_alloc_new w _
 have kg:W0.heap.size=w.heap.size+1:=by rw[hW0];simp
 have hcW:Ch w W0 p:=by rw[hW0];exact Ch.of (ah (Below.refl _ _) _)
 rw[←hW0] at hA
 have HX:=Lib.hid h
 have HA:=Lib.hid (And.intro hA (And.intro hr0 hcW))
 have HS:=Lib.hid hs
 have HB:=Lib.hid (And.intro hab (And.intro hb (And.intro hsz hc)))
 have HU:=Lib.hid hu
 have HW0:=Lib.hid hW0
 clear h hs hab hb hsz hc hu hA hr0 hcW hW0
 subst hv
 go_enter Tryz.func156,Tryz.ntmps156
 go_wp2_with fail
 rw[←HW0.out]
 refine(iA p k d 117 s L _ _ HA.out.1 (by decide)).mono ?_
 rintro x w1 ⟨rfl,hc1,hx1⟩
 rw[if_pos HU.out] at hx1
 rw[decide_eq_true HU.out]
 have Uh:=Lib.hid hx1
 have Dx:=Lib.hid hc1
 clear hx1 hc1
 go_wp2_with fail
 go_loopg [] (L.length-(k+1)) (fun g wx=>∃ki:Nat,ki+g=L.length∧XI wx p s L ki d (.slice ov L.length cv)∧Ch W0 wx p∧Pm.jI L ki j)
 case atStart=>exact⟨k+1,by omega,Uh.out,Dx.out,HS.out⟩
 case round=>
  obtain⟨ki,hkg,hxi,hch,hsc⟩:=hrel
  obtain⟨⟨c0,c1,c2,c3⟩,f0,f1,f2,f3⟩:=aJ hxi.hh
  have HI:=Lib.hid hxi
  have xg:=Lib.hid hch
  have Ow:(0:Int)≤(ki:Int):=by omega
  clear hxi hch
  rcases jI.inv hsc with⟨rfl,h0⟩|⟨h0,hn,hsc2⟩
  · have e1 : decide ((ki : Int) < (L.length : Int)) = true := by simp; omega
    have e2:decide (ki<L.length)=true:=by simp;omega
    have t1:(pk L ki != 125)=false:=by rw[h0 hj];rfl
    clear hsc h0
    go_wp2_with fail
    go_quiet ((go_at_call 112;exact Calls.quiet_of_same (bf p ki ki d s L _ _ (HI.out.drewN _))))
    clear c0 c1 c2 c3 f0 f1 f2 f3
    have bC:=Lib.hid (And.intro (HI.out.drewN nq) (xg.out.trans (Ch.drewN p nq)))
    obtain⟨⟨c0,c1,c2,c3⟩,f0,f1,f2,f3⟩:=aJ bC.out.1.hh
    generalize wr.drewN nq=wq at bC c0 c1 c2 c3 f0 f1 f2 f3 ⊢
    go_wp2_with fail
    go_quiet (fail)
    clear c0 c1 c2 c3 f0 f1 f2 f3
    have gV:=Lib.hid (And.intro (bC.out.1.drewN nq) (bC.out.2.trans (Ch.drewN p nq)))
    obtain⟨⟨c0,c1,c2,c3⟩,f0,f1,f2,f3⟩:=aJ gV.out.1.hh
    generalize wq.drewN nq=wp at gV c0 c1 c2 c3 f0 f1 f2 f3 ⊢
    have jQ:XI (wp.setCell ⟨p,2,none⟩ (.int .i64 ((ki:Int)+1))) p s L (ki+1) d (.slice ov L.length cv):=by
     have h9:=gV.out.1.at (k':=ki+1) (by omega)
     rwa [show((ki+1:Nat):Int)=(ki:Int)+1 by omega] at h9
    obtain⟨W8,dG⟩:∃W8,W8=wp.setCell ⟨p,2,none⟩ (.int .i64 ((ki:Int)+1)):=⟨_,rfl⟩
    rw[←dG] at jQ
    have hc8:Ch W0 W8 p:=by rw[dG];exact gV.out.2.trans (Ch.set _ _ _ _)
    have H8:=Lib.hid (And.intro jQ hc8)
    have vI:=Lib.hid dG
    clear jQ hc8 dG
    go_wp2_with fail
    rw[←vI.out]
    have eb:(ki:Int)+1=((ki+1:Nat):Int):=by omega
    rw[eb]
    refine(dx p (ki+1) (ki+1) d s L _ _ H8.out.1).mono ?_
    rintro x w1 ⟨rfl,hw⟩
    have hw:=hw.symm
    subst hw
    clear eb
    go_wp2_with fail
    refine(kX p (ki+1) d a (aA L s.size (ki+1)) s L _ S _ H8.out.1 HB.out.1 HB.out.2.1 HB.out.2.2.1 HB.out.2.2.2).mono ?_
    rintro x w2 ⟨u,rfl,hown,hbel⟩
    obtain⟨ou,cu,rfl⟩:=au hown
    have HO:=Lib.hid (And.intro hown hbel)
    clear hown hbel
    go_wp2_with fail
    refine(kP ou S.length cu _).mono ?_
    rintro x w3 ⟨rfl,hb3⟩
    have jA:Ch W0 w3 p:=(H8.out.2.trans (Ch.of HO.out.2)).trans (Ch.of hb3)
    have hr3:w3.heap[w.heap.size]? = some (.cells #[.int .i64 0,.slice none 0 0,.slice none 0 0] 35 (0,0)):=(jA.block _ (by omega) (by omega)).trans HA.out.2.1
    have hkp : KP (fun j => W8.heap.size ≤ j) w3 (fun w2 => bI w2 (.mk 2 S []) (.slice ou S.length cu) (.slice none 0 0)) := by
     intro w' hag
     exact oz (Row.owned (dU (S:=fun j=>W8.heap.size≤j) HO.out.1 ((Ag.of hb3).trans hag) (fun j hj=>(HO.out.1.lt j hj).1)))
    have xq:w.heap.size<W8.heap.size:=by have:=H8.out.2.size;omega
    obtain⟨⟨d0,d1,d2⟩,g0,g1,g2⟩:=ay hr3
    have HF:=Lib.hid (qw HX.out hr3 rfl (HA.out.2.2.trans jA) ((H8.out.1.moved HO.out.2).moved hb3) hkp (fun j hj=>by omega))
    clear jA hr3 hkp hb3
    go_wp2_with fail
    obtain⟨W9,hW,⟨⟨e0,e1,e2⟩,m0,m1,m2⟩,hre,bZ,eu⟩:=HF.out
    have HW:=Lib.hid hW
    clear hW HF
    rw[show(.int .i64 2:Value)=.int .i64 (RE.mk 2 S []).kind from rfl,←HW.out]
    refine bodyPost_ret (v:=.agg #[.int .i64 2,.slice ou S.length cu,.slice none 0 0]) (by simp[results,Tryz.results156,go_sem,e0,e1,e2,m0,m1,m2,RE.kind]) rfl ⟨hre,bZ,eu⟩
  · have e1 : decide ((ki : Int) < (L.length : Int)) = true := by simp; omega
    have e2:decide (ki<L.length)=true:=by simp;omega
    have t1:(pk L ki != 125)=true:=by simpa using hn
    have vH:=Lib.hid hsc2
    clear hsc hsc2 hn
    go_wp2_with fail
    go_quiet ((go_at_call 112;exact Calls.quiet_of_same (bf p ki ki d s L _ _ (HI.out.drewN _))))
    clear c0 c1 c2 c3 f0 f1 f2 f3
    have bC:=Lib.hid (And.intro (HI.out.drewN nq) (xg.out.trans (Ch.drewN p nq)))
    obtain⟨⟨c0,c1,c2,c3⟩,f0,f1,f2,f3⟩:=aJ bC.out.1.hh
    generalize wr.drewN nq=wq at bC c0 c1 c2 c3 f0 f1 f2 f3 ⊢
    go_wp2_with fail
    have ea:(ki:Int)+1=((ki+1:Nat):Int):=by omega
    try simp only[ea]
    clear ea
    go_roundg (L.length-(ki+1))
    case measure=>omega
    case rel=>exact⟨ki+1,by omega,bC.out.1.at (by omega),bC.out.2.trans (Ch.set _ _ _ _),vH.out⟩
end Go.Proofs.YtfkmajjgkdjncaaGreatDoor
