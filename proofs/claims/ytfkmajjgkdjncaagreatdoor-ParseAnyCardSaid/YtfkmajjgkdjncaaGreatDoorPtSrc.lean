/- Merged. -/
import Derived.Test.YtfkmajjgkdjncaaGreatDoorPtLine
set_option linter.unusedVariables false
set_option linter.unusedSimpArgs false
set_option maxHeartbeats 4000000
set_option maxRecDepth 100000
namespace Go.Proofs.YtfkmajjgkdjncaaGreatDoor
open Go.RowKit De Wd
theorem zM (p k:Nat) (U:List Uw) (wv tv rv ti ri:Value) (aD:List (TK×Value×Value)) (aG:List (RU×Value)) (lr:List Int) (w0 w:World) (hp0:p<w0.heap.size) (aC:LI w0 w p U k wv tv rv ti ri aD aG [] lr)
 (iH:aD.length≤1000) (hRl:aG.length≤1000) (fJ:oK (aD.map (·.1))) (fK:oL (aG.map (·.1))) (c:Int) (hc0:c≠0) (at_:Int) (hat:0≤at_∧at_≤1000) (hc:jd (aD.map (·.1)) (aG.map (·.1))=(c,at_)) :
 Calls Tryz.prog 24 #[.pointer (some ⟨p,0,none⟩)] w fun x w'=>x=.panicked [{ v:=.iface 65 (.agg #[.int .i64 c,.int .i64 0]),recovered:=false }]∧LI w0 w' p U k wv tv rv ti ri aD aG [] lr:=by
 have HG:=Lib.hid (oh (aD.map (·.1)) (aG.map (·.1)) tv rv w aC.tk.are aC.ru.are (by simpa using iH) (by simpa using hRl) fJ fK)
 obtain⟨Rq,Rt,hti⟩:=au aC.it
 subst hti
 obtain⟨⟨c0,c1,c2,c3,c4,c5,c6⟩,f0,f1,f2,f3,f4,f5,f6⟩:=aM aC.x.hh
 have aU:=Lib.hid aC
 have HC:=Lib.hid hc
 have hcd:(c == 0)=false:=by simpa using hc0
 have ha0:=hat.1
 have ha1:=hat.2
 clear aC hc fJ fK
 go_enter Tryz.func24,Tryz.ntmps24
 go_wp2_with fail
 refine HG.out.mono ?_
 rintro x w2 ⟨rfl,hb2⟩
 rw[HC.out]
 have iP:=aU.out.ch hp0 (Ch.of hb2) (aU.out.x.moved hb2) (Nat.le_refl _)
 obtain⟨⟨d0,d1,d2,d3,d4,d5,d6⟩,g0,g1,g2,g3,g4,g5,g6⟩:=aM iP.x.hh
 have H2:=Lib.hid iP
 clear hb2 iP
 go_wp2_with fail
 exact⟨rfl,rfl,H2.out⟩
theorem ES (w:World) :
 Calls Tryz.prog 10 #[.string ⟨#[]⟩] w fun x w'=>x=.returned (.tuple #[.agg #[.slice none 0 0,.slice none 0 0],.int .i64 6,.int .i64 0])∧Below w.heap.size w w':=by
 obtain⟨s,hsd⟩:∃s:ByteArray,s=⟨#[]⟩:=⟨_,rfl⟩
 rw[←hsd]
 obtain⟨W,hWd⟩:∃W:List (Nat×Wt),W=[]:=⟨_,rfl⟩
 have hs:s.size≤100000:=by rw[hsd];decide
 have hr:rs (sb s)=.ok W:=by
  rw[hsd,hWd]
  have h9:=QF (l:=[]) (by decide) (by rw[qO]) (by simp)
  rw[qO] at h9
  exact h9
 have hp:∀v∈W.map (vw (sb s)),v.1≠0:=by rw[hWd];intro v hv;cases hv
 have Wm:W.length≤100000:=by rw[hWd];decide
 have HW0:=Lib.hid (show W.length=0 by rw[hWd];rfl)
 clear hsd hWd
 have ng:∀(fn:Fn) (first cap:Array Value) (w:World),(Instr.makeFunc fn first cap).run Tryz.prog w=.ok (.func fn first cap) w:=fun _ _ _ _=>rfl
 have hfd0:∀(a c:Int) (b:ByteArray) (w:World),(Instr.field 72 (.agg #[.int .i64 a,.string b,.int .i64 c]) 0).run Tryz.prog w=.ok (.int .i64 a) w:=fun _ _ _ _=>by kernel_rfl
 have hV:=xK hp
 obtain⟨V,nM⟩:∃V,V=W.map (vw (sb s)):=⟨_,rfl⟩
 have tY:=rZ s W
 have tZ:=wS s W
 obtain⟨U,hU⟩:∃U,U=nD s W:=⟨_,rfl⟩
 rw[←nM,←hU] at hV
 rw[←nM] at hp
 rw[←hU] at tY tZ
 have Rv:V.length=W.length:=by rw[nM];simp
 obtain⟨iw,hi0,hi1,hi2,hi3⟩:=sW
 obtain⟨W3,hW3⟩:∃W3,W3=(((w.alloc (.cells #[.slice none 0 0,.slice none 0 0] 26)).alloc (.cells #[.int .i64 0] 3)).alloc (.cells #[.int .i64 0] 3)):=⟨_,rfl⟩
 obtain⟨g0,g1,g2,g3,g4⟩:=lD w _ _ _ W3 hW3
 have hall:=nG s W3 hs
 unfold kF at hall
 rw[hr] at hall
 have HA:=Lib.hid hall
 have HU:=Lib.hid (And.intro tZ (And.intro hV hp))
 have hsl:(s.size:Int)≤9223372036854775807:=by omega
 have HG:=Lib.hid (And.intro hW3 (And.intro g0 (And.intro g1 (And.intro g2 (And.intro g3 g4)))))
 clear hW3 g0 g1 g2 g3 g4 hall hr tZ hV hp nM hU
 go_enter_defers Tryz.func10,Tryz.ntmps10
 go_wp2_with fail
 obtain⟨hW3,g0,g1,g2,g3,g4⟩:=HG.out
 rw[←hW3]
 refine HA.out.mono ?_
 rintro x w4 ⟨uv,rfl,bN,hb4⟩
 have bQ:bR w w4 (.slice none 0 0) (.slice none 0 0):=bR.below ⟨g0,g1,g2,g4⟩ (by omega) hb4
 have lF:=hb4.size
 obtain⟨ou,cu,rfl⟩:=au bN
 obtain⟨d1,f1⟩:=aj bQ.h1
 obtain⟨d2,f2⟩:=aj bQ.h2
 obtain⟨W4,eT⟩:∃W4,W4=((w4.setCell ⟨w.heap.size+1,0,none⟩ (.int .i64 0)).setCell ⟨w.heap.size+1+1,0,none⟩ (.int .i64 0)):=⟨_,rfl⟩
 have yG:bR w W4 (.slice none 0 0) (.slice none 0 0):=by rw[eT];exact bQ.zero
 have hown:W4.ownsRow W3.heap.size 72 3 (.slice ou W.length cu) W.length (oC s W):=by
  rw[eT];exact aX (aX bN (by omega)) (by omega)
 have oD:W3.heap.size≤W4.heap.size:=by rw[eT];simpa [World.setCell] using lF
 have H4:=Lib.hid (And.intro yG (And.intro hown eT))
 have Wn:W3.heap.size=w.heap.size+1+1+1:=g3
 clear yG hown eT bQ bN hb4 lF hW3 g0 g1 g2 g3 g4 HG
 have hre:(W4=((w4.setCell ⟨w.heap.size+1,0,none⟩ (.int .i64 0)).setCell ⟨w.heap.size+1+1,0,none⟩ (.int .i64 0))):=H4.out.2.2
 have oN:=Lib.hid hre
 clear hre
 obtain⟨e1,Dt⟩:=aj H4.out.1.h1
 have Az:w.heap.size+1+1+1≤W4.heap.size:=by omega
 go_wp2_with (first|(with_reducible rw[←oN.out])|(at_builtin;refine aW _ rfl _ _ 67 rfl W3.heap.size 72 iw _ 3 32 Tryz.underlying67 hi0 hi1 hi2 hi3 rfl (by decide) (.slice ou W.length cu) W.length (oC s W) rfl (by repeat (first|exact H4.out.2.1|refine World.ownsRow.alloc ?_ _|refine bX ?_)) _ 1 _ rfl (by exact bE rfl (by simp)) rfl (by simp[Value.oneCell']) (by unfold maxLen;omega) (by omega) (by simp;omega) ?_;intro v5 w5 hown5 hg5 rO hb5;obtain⟨o5,c5,rfl⟩:=au hown5))
 have om:Below W3.heap.size W4 w5:=Below.trans (jo oD (ah (Below.refl _ _) _)) hb5
 have dM:bR w w5 (.slice none 0 0) (.slice none 0 0):=H4.out.1.BR (by omega) om
 obtain⟨W6,bA⟩:∃W6,W6=w5.alloc (.cells #[.slice o5 (W.length+1) c5,.int .i64 0,.int .i64 0,.slice none 0 0,.slice none 0 0,.slice none 0 0,.slice none 0 0] 74):=⟨_,rfl⟩
 obtain⟨p,hp⟩:∃p,p=w5.heap.size:=⟨_,rfl⟩
 have P6:w.heap.size+1+1+1≤w5.heap.size:=Nat.le_trans Az om.size
 have hpi:PI W6 p U 0 0 (.slice o5 (W.length+1) c5) (.slice none 0 0) (.slice none 0 0) (.slice none 0 0) (.slice none 0 0):=by
  rw[bA]
  refine⟨by rw[hp];exact heap_alloc_new w5 _,?_,fun b off cap e=>?_,by omega,by omega,fun j q hq h0=>?_⟩
  · rw [tY, HU.out.1]
    exact(Row.owned hown5).below (ah (Below.refl _ _) _)
  · rw [tY] at e
    simp only[Value.slice.injEq,true_and] at e
    obtain⟨rfl,rfl⟩:=e
    have:=(hown5.lt b rfl).2
    omega
  · have h1 := (List.getElem?_eq_some_iff.1 hq).1
    rcases Nat.lt_or_ge (j+1) U.length with h2|h2
    · exact h2
    · have : j = V.length := by omega
      subst this
      exact absurd (HU.out.2.1.fin q hq) h0
 have dZ:bR w W6 (.slice none 0 0) (.slice none 0 0):=by rw[bA];exact dM.below (by omega) (ah (Below.refl _ _) _)
 have rD:p<W6.heap.size:=hpi.lt
 have H6:=Lib.hid (And.intro hpi dZ)
 have kH:=Lib.hid bA
 have HP:=Lib.hid hp
 have hps:w.heap.size+1+1<p:=by omega
 clear hown5 hg5 rO hb5 om dM hpi dZ bA hp d1 f1 d2 f2 e1 Dt
 rw[←kH.out]
 simp only[←HP.out]
 go_loopg [] (U.length) (fun g wx=>wx=W6)
 case atStart=>rfl
 case round=>
  subst hrel
  obtain⟨⟨qk,qb,qn⟩,hqq⟩:=HU.out.2.1.at H6.out.1.le
  obtain rfl:qk=0:=HU.out.2.1.fin (qk,qb,qn) (by rw[Rv,HW0.out];exact hqq)
  have HQ:=Lib.hid hqq
  have aU:=Lib.hid (LI.start H6.out.1)
  clear hqq
  · go_wp2_with fail
    refine(bD p 0 0 U _ _ _ _ _ ((0:Int),qb,qn) _ aU.out.x HQ.out).mono ?_
    rintro x w7 ⟨rfl,gY⟩
    dsimp only[iZ]
    have H7:=Lib.hid (aU.out.ch rD (Ch.of gY) (aU.out.x.moved gY) (Nat.le_refl _))
    clear gY
    go_wp2_with fail
    refine(zM p 0 U _ _ _ _ _ [] [] [] wr _ rD H7.out (by decide) (by decide) (fun i t h=>by simp at h) (fun i t h=>by simp at h) 6 (by decide) 0 (by decide) (by kernel_rfl)).mono ?_
    rintro x w8 ⟨rfl,bY⟩
    have GU:wr.heap.size≤w8.heap.size:=bY.c.size
    have aZ:bR w w8 (.slice none 0 0) (.slice none 0 0):=H6.out.2.ch (p:=p) (by omega) hps bY.c
    clear bY
    go_wp2_with fail
    refine leaves_cons (f:=20) (args:=#[.pointer (some ⟨w.heap.size,0,none⟩),.pointer (some ⟨w.heap.size+1,0,none⟩),.pointer (some ⟨w.heap.size+1+1,0,none⟩)]) (by simp) (by simp[go_sem]) ?_
    refine(l6 _ _ _ 6 0 _ _ _ _ w8 aZ.h0 aZ.h1 aZ.h2 (by omega) (by omega) (by omega)).mono ?_
    rintro x u' w9 ⟨rfl,rfl,K0,K1,K2,hbel⟩
    have HB:=aZ.aV.trans (hbel _ (Nat.le_refl _) (by omega) (by omega) (by omega))
    obtain⟨⟨d0,d0'⟩,g0,g0'⟩:=dV K0
    obtain⟨d1,g1⟩:=aj K1
    obtain⟨d2,g2⟩:=aj K2
    simp[Leaves,settle,results,Tryz.results10,go_sem,d0,d0',d1,d2]
    exact HB
def zT (c:Int) (z:Nat) (w:World) (x:Ending) (w':World):Prop:=
 x=.returned (.tuple #[.agg #[.slice none 0 0,.slice none 0 0],.int .i64 c,.int .i64 z])∧Below w.heap.size w w'
theorem ER (s:ByteArray) (W:List (Nat×Wt)) (c:Int) (z:Nat) (w:World) (hs:s.size≤100000) (hr:rs (sb s)=.ok W) (hp:∀v∈W.map (vw (sb s)),v.1≠0) (Wm:W.length≤100000) (h0:W≠[])
 (hl:∀p wv w0 tv rv ti ri,LI w0 w0 p (nD s W) 0 wv tv rv ti ri [] [] [] []→iq (W.map (vw (sb s))) (nD s W)→Calls Tryz.prog 23 #[.pointer (some ⟨p,0,none⟩)] w0 fun x w'=>x=dL c z∧Ch w0 w' p) :
 Calls Tryz.prog 10 #[.string s] w (zT c z w):=by
 have hWp:0<W.length:=List.length_pos_iff.2 h0
 have ng:∀(fn:Fn) (first cap:Array Value) (w:World),(Instr.makeFunc fn first cap).run Tryz.prog w=.ok (.func fn first cap) w:=fun _ _ _ _=>rfl
 have hfd0:∀(a c:Int) (b:ByteArray) (w:World),(Instr.field 72 (.agg #[.int .i64 a,.string b,.int .i64 c]) 0).run Tryz.prog w=.ok (.int .i64 a) w:=fun _ _ _ _=>by kernel_rfl
 have hV:=xK hp
 obtain⟨V,nM⟩:∃V,V=W.map (vw (sb s)):=⟨_,rfl⟩
 have tY:=rZ s W
 have tZ:=wS s W
 obtain⟨U,hU⟩:∃U,U=nD s W:=⟨_,rfl⟩
 rw[←nM,←hU] at hV
 simp only[←nM,←hU] at hl
 have HLN:=Lib.hid hl
 clear hl
 rw[←nM] at hp
 rw[←hU] at tY tZ
 have Rv:V.length=W.length:=by rw[nM];simp
 obtain⟨iw,hi0,hi1,hi2,hi3⟩:=sW
 obtain⟨W3,hW3⟩:∃W3,W3=(((w.alloc (.cells #[.slice none 0 0,.slice none 0 0] 26)).alloc (.cells #[.int .i64 0] 3)).alloc (.cells #[.int .i64 0] 3)):=⟨_,rfl⟩
 obtain⟨g0,g1,g2,g3,g4⟩:=lD w _ _ _ W3 hW3
 have hall:=nG s W3 hs
 unfold kF at hall
 rw[hr] at hall
 have HA:=Lib.hid hall
 have HU:=Lib.hid (And.intro tZ (And.intro hV hp))
 have hsl:(s.size:Int)≤9223372036854775807:=by omega
 have HG:=Lib.hid (And.intro hW3 (And.intro g0 (And.intro g1 (And.intro g2 (And.intro g3 g4)))))
 clear hW3 g0 g1 g2 g3 g4 hall hr tZ hV hp nM hU
 go_enter_defers Tryz.func10,Tryz.ntmps10
 go_wp2_with fail
 obtain⟨hW3,g0,g1,g2,g3,g4⟩:=HG.out
 rw[←hW3]
 refine HA.out.mono ?_
 rintro x w4 ⟨uv,rfl,bN,hb4⟩
 have bQ:bR w w4 (.slice none 0 0) (.slice none 0 0):=bR.below ⟨g0,g1,g2,g4⟩ (by omega) hb4
 have lF:=hb4.size
 obtain⟨ou,cu,rfl⟩:=au bN
 obtain⟨d1,f1⟩:=aj bQ.h1
 obtain⟨d2,f2⟩:=aj bQ.h2
 obtain⟨W4,eT⟩:∃W4,W4=((w4.setCell ⟨w.heap.size+1,0,none⟩ (.int .i64 0)).setCell ⟨w.heap.size+1+1,0,none⟩ (.int .i64 0)):=⟨_,rfl⟩
 have yG:bR w W4 (.slice none 0 0) (.slice none 0 0):=by rw[eT];exact bQ.zero
 have hown:W4.ownsRow W3.heap.size 72 3 (.slice ou W.length cu) W.length (oC s W):=by
  rw[eT];exact aX (aX bN (by omega)) (by omega)
 have oD:W3.heap.size≤W4.heap.size:=by rw[eT];simpa [World.setCell] using lF
 have H4:=Lib.hid (And.intro yG (And.intro hown eT))
 have Wn:W3.heap.size=w.heap.size+1+1+1:=g3
 clear yG hown eT bQ bN hb4 lF hW3 g0 g1 g2 g3 g4 HG
 have hre:(W4=((w4.setCell ⟨w.heap.size+1,0,none⟩ (.int .i64 0)).setCell ⟨w.heap.size+1+1,0,none⟩ (.int .i64 0))):=H4.out.2.2
 have oN:=Lib.hid hre
 clear hre
 obtain⟨e1,Dt⟩:=aj H4.out.1.h1
 have Az:w.heap.size+1+1+1≤W4.heap.size:=by omega
 go_wp2_with (first|(with_reducible rw[←oN.out])|(at_builtin;refine aW _ rfl _ _ 67 rfl W3.heap.size 72 iw _ 3 32 Tryz.underlying67 hi0 hi1 hi2 hi3 rfl (by decide) (.slice ou W.length cu) W.length (oC s W) rfl (by repeat (first|exact H4.out.2.1|refine World.ownsRow.alloc ?_ _|refine bX ?_)) _ 1 _ rfl (by exact bE rfl (by simp)) rfl (by simp[Value.oneCell']) (by unfold maxLen;omega) (by omega) (by simp;omega) ?_;intro v5 w5 hown5 hg5 rO hb5;obtain⟨o5,c5,rfl⟩:=au hown5))
 have om:Below W3.heap.size W4 w5:=Below.trans (jo oD (ah (Below.refl _ _) _)) hb5
 have dM:bR w w5 (.slice none 0 0) (.slice none 0 0):=H4.out.1.BR (by omega) om
 obtain⟨W6,bA⟩:∃W6,W6=w5.alloc (.cells #[.slice o5 (W.length+1) c5,.int .i64 0,.int .i64 0,.slice none 0 0,.slice none 0 0,.slice none 0 0,.slice none 0 0] 74):=⟨_,rfl⟩
 obtain⟨p,hp⟩:∃p,p=w5.heap.size:=⟨_,rfl⟩
 have P6:w.heap.size+1+1+1≤w5.heap.size:=Nat.le_trans Az om.size
 have hpi:PI W6 p U 0 0 (.slice o5 (W.length+1) c5) (.slice none 0 0) (.slice none 0 0) (.slice none 0 0) (.slice none 0 0):=by
  rw[bA]
  refine⟨by rw[hp];exact heap_alloc_new w5 _,?_,fun b off cap e=>?_,by omega,by omega,fun j q hq h0=>?_⟩
  · rw [tY, HU.out.1]
    exact(Row.owned hown5).below (ah (Below.refl _ _) _)
  · rw [tY] at e
    simp only[Value.slice.injEq,true_and] at e
    obtain⟨rfl,rfl⟩:=e
    have:=(hown5.lt b rfl).2
    omega
  · have h1 := (List.getElem?_eq_some_iff.1 hq).1
    rcases Nat.lt_or_ge (j+1) U.length with h2|h2
    · exact h2
    · have : j = V.length := by omega
      subst this
      exact absurd (HU.out.2.1.fin q hq) h0
 have dZ:bR w W6 (.slice none 0 0) (.slice none 0 0):=by rw[bA];exact dM.below (by omega) (ah (Below.refl _ _) _)
 have rD:p<W6.heap.size:=hpi.lt
 have H6:=Lib.hid (And.intro hpi dZ)
 have kH:=Lib.hid bA
 have HP:=Lib.hid hp
 have hps:w.heap.size+1+1<p:=by omega
 clear hown5 hg5 rO hb5 om dM hpi dZ bA hp d1 f1 d2 f2 e1 Dt
 rw[←kH.out]
 simp only[←HP.out]
 go_loopg [] (U.length) (fun g wx=>wx=W6)
 case atStart=>rfl
 case round=>
  subst hrel
  obtain⟨⟨qk,qb,qn⟩,hqq⟩:=HU.out.2.1.at H6.out.1.le
  have hq0:qk≠0:=by
   have h1:=HU.out.2.1.get 0 (qk,qb,qn) hqq (by omega)
   exact HU.out.2.1.pos 0 _ h1
  have e5:(qk == 0)=false:=by simpa using hq0
  have e6:(qk != 0)=true:=by simpa using hq0
  have HQ:=Lib.hid hqq
  have aU:=Lib.hid (LI.start H6.out.1)
  clear hqq
  · go_wp2_with fail
    refine(bD p 0 0 U _ _ _ _ _ (qk,qb,qn) _ aU.out.x HQ.out).mono ?_
    rintro x w7 ⟨rfl,gY⟩
    dsimp only[iZ]
    have H7:=Lib.hid (aU.out.ch rD (Ch.of gY) (aU.out.x.moved gY) (Nat.le_refl _))
    clear gY
    go_wp2_with fail
    refine(HLN.out p _ _ _ _ _ _ (LI.start H7.out.x) HU.out.2.1).mono ?_
    rintro x w8 ⟨rfl,hc8⟩
    have aZ:bR w w8 (.slice none 0 0) (.slice none 0 0):=H6.out.2.ch (p:=p) (by omega) hps (H7.out.c.trans hc8)
    have GU:wr.heap.size≤w8.heap.size:=(H7.out.c.trans hc8).size
    clear hc8
    go_wp2_with fail
    refine leaves_cons (f:=20) (args:=#[.pointer (some ⟨w.heap.size,0,none⟩),.pointer (some ⟨w.heap.size+1,0,none⟩),.pointer (some ⟨w.heap.size+1+1,0,none⟩)]) (by simp) (by simp[go_sem]) ?_
    refine(l6 _ _ _ c z _ _ _ _ w8 aZ.h0 aZ.h1 aZ.h2 (by omega) (by omega) (by omega)).mono ?_
    rintro x u' w9 ⟨rfl,rfl,K0,K1,K2,hbel⟩
    have HB:=aZ.aV.trans (hbel _ (Nat.le_refl _) (by omega) (by omega) (by omega))
    obtain⟨⟨d0,d0'⟩,g0,g0'⟩:=dV K0
    obtain⟨d1,g1⟩:=aj K1
    obtain⟨d2,g2⟩:=aj K2
    simp[Leaves,settle,results,Tryz.results10,go_sem,d0,d0',d1,d2]
    exact⟨rfl,HB⟩
theorem GV {T:List TK} {c a:Int}:∀(l:List TK) (i:Nat),qK T i l=some (c,a)→∃j:Nat,i≤j∧j<i+l.length∧a=(j:Int)
 | [],i,h=>by rw[Ea] at h;cases h
 | t :: l, i, h => by
  rw[BK] at h
  split at h
  · simp only [Option.some.injEq, Prod.mk.injEq] at h
    exact⟨i,Nat.le_refl _,by simp,h.2.symm⟩
  · obtain ⟨j, h1, h2, h3⟩ := GV l (i + 1) h
    exact⟨j,by omega,by simp;omega,h3⟩
theorem Ec {T:List TK} {c a:Int}:∀(l:List RU) (i:Nat),mI T i l=some (c,a)→∃j:Nat,i≤j∧j<i+l.length∧a=(T.length:Int)+(j:Int)
 | [],i,h=>by rw[BL] at h;cases h
 | t :: l, i, h => by
  rw[zJ] at h
  split at h
  · simp only [Option.some.injEq, Prod.mk.injEq] at h
    exact⟨i,Nat.le_refl _,by simp,h.2.symm⟩
  · obtain ⟨j, h1, h2, h3⟩ := Ec l (i + 1) h
    exact⟨j,by omega,by simp;omega,h3⟩
theorem Np {T:List TK} {R:List RU} {c a:Int} (h:jd T R=(c,a)) (hc:c≠0) :
 (T.length=0∧a=0)∨(16<T.length∧a=0)∨((1≤T.length∧T.length≤16)∧((∃i:Nat,i<T.length∧a=(i:Int))∨(8<R.length∧a=(T.length:Int))∨(R.length≤8∧∃i:Nat,i<R.length∧a=(T.length:Int)+(i:Int)))):=by
 unfold jd at h
 by_cases h1:1≤T.length∧T.length≤16
 · rw [if_neg (by simp [h1])] at h
   refine .inr (.inr ⟨h1,?_⟩)
   cases ht:qK T 0 T with
   | some e =>
    rw[ht] at h
    simp only at h
    subst h
    obtain⟨j,_,h2,h3⟩:=GV T 0 ht
    exact .inl ⟨j,by omega,h3⟩
   | none =>
    rw[ht] at h
    simp only at h
    by_cases h8:R.length≤8
    · rw [if_neg (by simp [h8])] at h
      cases hr:mI T 0 R with
      | some e =>
       rw[hr] at h
       simp only at h
       subst h
       obtain⟨j,_,h2,h3⟩:=Ec R 0 hr
       exact .inr (.inr ⟨h8,j,by omega,h3⟩)
      | none =>
       rw[hr] at h
       simp only[Prod.mk.injEq] at h
       exact absurd h.1.symm hc
    · rw [if_pos h8] at h
      simp only[Prod.mk.injEq] at h
      exact .inr (.inl ⟨by omega,h.2.symm⟩)
 · rw [if_pos h1] at h
   simp only[Prod.mk.injEq] at h
   by_cases h0:T.length=0
   · exact .inl ⟨h0,h.2.symm⟩
   · exact .inr (.inl ⟨by omega,h.2.symm⟩)
theorem wT {w:World} {B:Nat} {v:Value} {l:List Int} {N i:Nat} (h:w.ownsRow B 3 1 v l.length (l.map (Value.int .i64))) (hl:∀n∈l,∃m:Nat,n=(m:Int)∧m≤N) (hi:i<l.length) :
 ∃(b off cap m:Nat),v=.slice (some ⟨b,off,none⟩) l.length cap∧b<w.heap.size∧w.cell? ⟨b,off+i,none⟩=some (.int .i64 (m:Int))∧m≤N:=by
 obtain⟨b,off,cap,e,hb,hc⟩:=(Row.owned h).cells' (by omega)
 obtain⟨m,hm,hmN⟩:=hl l[i] (List.getElem_mem hi)
 exact⟨b,off,cap,m,e,hb,hc i _ (by rw[List.getElem?_map,List.getElem?_eq_getElem hi,hm];rfl),hmN⟩
theorem Ja (N p k:Nat) (U:List Uw) (wv tv rv ti ri:Value) (aD:List (TK×Value×Value)) (aG:List (RU×Value)) (lt lr:List Int) (w0 w:World) (hp0:p<w0.heap.size) (aC:LI w0 w p U k wv tv rv ti ri aD aG lt lr) (hf:mP N aD aG lt lr)
 (iH:aD.length≤1000) (hRl:aG.length≤1000) (fJ:oK (aD.map (·.1))) (fK:oL (aG.map (·.1))) (c a:Int) (hc0:c≠0) (hc:jd (aD.map (·.1)) (aG.map (·.1))=(c,a)) (ha:a=0) (h16:16<lt.length) :
 Calls Tryz.prog 24 #[.pointer (some ⟨p,0,none⟩)] w fun x w'=>∃z:Nat,x=dL c z∧z≤N∧Ch w0 w' p:=by
 have HG:=Lib.hid (oh (aD.map (·.1)) (aG.map (·.1)) tv rv w aC.tk.are aC.ru.are (by simpa using iH) (by simpa using hRl) fJ fK)
 obtain⟨Rq,Rt,hti⟩:=au aC.it
 obtain⟨Wo,Wp,mQ⟩:=au aC.ir
 subst hti mQ
 obtain⟨⟨c0,c1,c2,c3,c4,c5,c6⟩,f0,f1,f2,f3,f4,f5,f6⟩:=aM aC.x.hh
 have aU:=Lib.hid aC
 have HC:=Lib.hid hc
 have HF:=Lib.hid hf
 have hcd:(c == 0)=false:=by simpa using hc0
 have hnt:=hf.nt
 have hnr:=hf.nr
 have hl1:lt.length≤1000:=by omega
 have hl2:lr.length≤1000:=by omega
 subst ha
 have z1:((lt.length:Int) == 0)=false:=beq_eq_false_iff_ne.2 (by omega)
 have z2:(lt.length == 0)=false:=beq_eq_false_iff_ne.2 (by omega)
 have P7:decide ((16:Int)<(lt.length:Int))=true:=by simp;omega
 have u162:decide (16<lt.length)=true:=by simp;omega
 have P8:decide ((lt.length:Int)>(16:Int))=true:=by simp;omega
 clear aC hc fJ fK hf
 go_enter Tryz.func24,Tryz.ntmps24
 go_wp2_with fail
 refine HG.out.mono ?_
 rintro x w2 ⟨rfl,hb2⟩
 rw[HC.out]
 have iP:=aU.out.ch hp0 (Ch.of hb2) (aU.out.x.moved hb2) (Nat.le_refl _)
 obtain⟨⟨d0,d1,d2,d3,d4,d5,d6⟩,g0,g1,g2,g3,g4,g5,g6⟩:=aM iP.x.hh
 obtain⟨b9,f9,q9,m9,e9,bF,bZ,yH⟩:=wT (i:=16) iP.it HF.out.ta (by omega)
 simp only[Value.slice.injEq,true_and] at e9
 obtain⟨rfl,rfl⟩:=e9
 have H2:=Lib.hid (And.intro iP.c yH)
 clear hb2 iP yH
 go_wp2_with fail
 exact⟨rfl,m9,rfl,H2.out.2,H2.out.1⟩
theorem Jb (N p k:Nat) (U:List Uw) (wv tv rv ti ri:Value) (aD:List (TK×Value×Value)) (aG:List (RU×Value)) (lt lr:List Int) (w0 w:World) (hp0:p<w0.heap.size) (aC:LI w0 w p U k wv tv rv ti ri aD aG lt lr) (hf:mP N aD aG lt lr)
 (iH:aD.length≤1000) (hRl:aG.length≤1000) (fJ:oK (aD.map (·.1))) (fK:oL (aG.map (·.1))) (c a:Int) (hc0:c≠0) (hc:jd (aD.map (·.1)) (aG.map (·.1))=(c,a)) (i:Nat) (hi:i<lt.length) (ha:a=(i:Int)) (h16:lt.length≤16) :
 Calls Tryz.prog 24 #[.pointer (some ⟨p,0,none⟩)] w fun x w'=>∃z:Nat,x=dL c z∧z≤N∧Ch w0 w' p:=by
 have HG:=Lib.hid (oh (aD.map (·.1)) (aG.map (·.1)) tv rv w aC.tk.are aC.ru.are (by simpa using iH) (by simpa using hRl) fJ fK)
 obtain⟨Rq,Rt,hti⟩:=au aC.it
 obtain⟨Wo,Wp,mQ⟩:=au aC.ir
 subst hti mQ
 obtain⟨⟨c0,c1,c2,c3,c4,c5,c6⟩,f0,f1,f2,f3,f4,f5,f6⟩:=aM aC.x.hh
 have aU:=Lib.hid aC
 have HC:=Lib.hid hc
 have HF:=Lib.hid hf
 have hcd:(c == 0)=false:=by simpa using hc0
 have hnt:=hf.nt
 have hnr:=hf.nr
 have hl1:lt.length≤1000:=by omega
 have hl2:lr.length≤1000:=by omega
 subst ha
 have z1:((lt.length:Int) == 0)=false:=beq_eq_false_iff_ne.2 (by omega)
 have z2:(lt.length == 0)=false:=beq_eq_false_iff_ne.2 (by omega)
 have P7:decide ((16:Int)<(lt.length:Int))=false:=by simp;omega
 have u162:decide (16<lt.length)=false:=by simp;omega
 have P8:decide ((lt.length:Int)>(16:Int))=false:=by simp;omega
 have v1:decide ((i:Int)-(lt.length:Int)<0)=true:=by simp;omega
 have v2:(i:Int)<(lt.length:Int):=by omega
 have v3:(0:Int)≤(i:Int):=by omega
 clear aC hc fJ fK hf
 go_enter Tryz.func24,Tryz.ntmps24
 go_wp2_with fail
 refine HG.out.mono ?_
 rintro x w2 ⟨rfl,hb2⟩
 rw[HC.out]
 have iP:=aU.out.ch hp0 (Ch.of hb2) (aU.out.x.moved hb2) (Nat.le_refl _)
 obtain⟨⟨d0,d1,d2,d3,d4,d5,d6⟩,g0,g1,g2,g3,g4,g5,g6⟩:=aM iP.x.hh
 obtain⟨b9,f9,q9,m9,e9,bF,bZ,yH⟩:=wT (i:=i) iP.it HF.out.ta (by omega)
 simp only[Value.slice.injEq,true_and] at e9
 obtain⟨rfl,rfl⟩:=e9
 have H2:=Lib.hid (And.intro iP.c yH)
 clear hb2 iP yH
 go_wp2_with fail
 exact⟨rfl,m9,rfl,H2.out.2,H2.out.1⟩
theorem GX (N p k:Nat) (U:List Uw) (wv tv rv ti ri:Value) (aD:List (TK×Value×Value)) (aG:List (RU×Value)) (lt lr:List Int) (w0 w:World) (hp0:p<w0.heap.size) (aC:LI w0 w p U k wv tv rv ti ri aD aG lt lr) (hf:mP N aD aG lt lr)
 (iH:aD.length≤1000) (hRl:aG.length≤1000) (fJ:oK (aD.map (·.1))) (fK:oL (aG.map (·.1))) (c a:Int) (hc0:c≠0) (hc:jd (aD.map (·.1)) (aG.map (·.1))=(c,a)) (ha:a=(lt.length:Int)) (h1:1≤lt.length) (h16:lt.length≤16) (h8:8<lr.length) :
 Calls Tryz.prog 24 #[.pointer (some ⟨p,0,none⟩)] w fun x w'=>∃z:Nat,x=dL c z∧z≤N∧Ch w0 w' p:=by
 have HG:=Lib.hid (oh (aD.map (·.1)) (aG.map (·.1)) tv rv w aC.tk.are aC.ru.are (by simpa using iH) (by simpa using hRl) fJ fK)
 obtain⟨Rq,Rt,hti⟩:=au aC.it
 obtain⟨Wo,Wp,mQ⟩:=au aC.ir
 subst hti mQ
 obtain⟨⟨c0,c1,c2,c3,c4,c5,c6⟩,f0,f1,f2,f3,f4,f5,f6⟩:=aM aC.x.hh
 have aU:=Lib.hid aC
 have HC:=Lib.hid hc
 have HF:=Lib.hid hf
 have hcd:(c == 0)=false:=by simpa using hc0
 have hnt:=hf.nt
 have hnr:=hf.nr
 have hl1:lt.length≤1000:=by omega
 have hl2:lr.length≤1000:=by omega
 subst ha
 have z1:((lt.length:Int) == 0)=false:=beq_eq_false_iff_ne.2 (by omega)
 have z2:(lt.length == 0)=false:=beq_eq_false_iff_ne.2 (by omega)
 have P7:decide ((16:Int)<(lt.length:Int))=false:=by simp;omega
 have u162:decide (16<lt.length)=false:=by simp;omega
 have P8:decide ((lt.length:Int)>(16:Int))=false:=by simp;omega
 have u81:decide ((8:Int)<(lr.length:Int))=true:=by simp;omega
 have u82:decide (8<lr.length)=true:=by simp;omega
 have u83:decide ((lr.length:Int)>(8:Int))=true:=by simp;omega
 clear aC hc fJ fK hf
 go_enter Tryz.func24,Tryz.ntmps24
 go_wp2_with fail
 refine HG.out.mono ?_
 rintro x w2 ⟨rfl,hb2⟩
 rw[HC.out]
 have iP:=aU.out.ch hp0 (Ch.of hb2) (aU.out.x.moved hb2) (Nat.le_refl _)
 obtain⟨⟨d0,d1,d2,d3,d4,d5,d6⟩,g0,g1,g2,g3,g4,g5,g6⟩:=aM iP.x.hh
 obtain⟨b9,f9,q9,m9,e9,bF,bZ,yH⟩:=wT (i:=8) iP.ir HF.out.ra (by omega)
 simp only[Value.slice.injEq,true_and] at e9
 obtain⟨rfl,rfl⟩:=e9
 have H2:=Lib.hid (And.intro iP.c yH)
 clear hb2 iP yH
 go_wp2_with fail
 exact⟨rfl,m9,rfl,H2.out.2,H2.out.1⟩
theorem GY (N p k:Nat) (U:List Uw) (wv tv rv ti ri:Value) (aD:List (TK×Value×Value)) (aG:List (RU×Value)) (lt lr:List Int) (w0 w:World) (hp0:p<w0.heap.size) (aC:LI w0 w p U k wv tv rv ti ri aD aG lt lr) (hf:mP N aD aG lt lr)
 (iH:aD.length≤1000) (hRl:aG.length≤1000) (fJ:oK (aD.map (·.1))) (fK:oL (aG.map (·.1))) (c a:Int) (hc0:c≠0) (hc:jd (aD.map (·.1)) (aG.map (·.1))=(c,a)) (i:Nat) (hi:i<lr.length) (ha:a=(lt.length:Int)+(i:Int)) (h1:1≤lt.length) (h16:lt.length≤16) (h8:lr.length≤8) :
 Calls Tryz.prog 24 #[.pointer (some ⟨p,0,none⟩)] w fun x w'=>∃z:Nat,x=dL c z∧z≤N∧Ch w0 w' p:=by
 have HG:=Lib.hid (oh (aD.map (·.1)) (aG.map (·.1)) tv rv w aC.tk.are aC.ru.are (by simpa using iH) (by simpa using hRl) fJ fK)
 obtain⟨Rq,Rt,hti⟩:=au aC.it
 obtain⟨Wo,Wp,mQ⟩:=au aC.ir
 subst hti mQ
 obtain⟨⟨c0,c1,c2,c3,c4,c5,c6⟩,f0,f1,f2,f3,f4,f5,f6⟩:=aM aC.x.hh
 have aU:=Lib.hid aC
 have HC:=Lib.hid hc
 have HF:=Lib.hid hf
 have hcd:(c == 0)=false:=by simpa using hc0
 have hnt:=hf.nt
 have hnr:=hf.nr
 have hl1:lt.length≤1000:=by omega
 have hl2:lr.length≤1000:=by omega
 subst ha
 have z1:((lt.length:Int) == 0)=false:=beq_eq_false_iff_ne.2 (by omega)
 have z2:(lt.length == 0)=false:=beq_eq_false_iff_ne.2 (by omega)
 have P7:decide ((16:Int)<(lt.length:Int))=false:=by simp;omega
 have u162:decide (16<lt.length)=false:=by simp;omega
 have P8:decide ((lt.length:Int)>(16:Int))=false:=by simp;omega
 have u81:decide ((8:Int)<(lr.length:Int))=false:=by simp;omega
 have u82:decide (8<lr.length)=false:=by simp;omega
 have u83:decide ((lr.length:Int)>(8:Int))=false:=by simp;omega
 have v1:(lt.length:Int)+(i:Int)-(lt.length:Int)=(i:Int):=by omega
 have v2:(i:Int)<(lr.length:Int):=by omega
 have v3:(0:Int)≤(i:Int):=by omega
 have v4:decide ((i:Int)<0)=false:=by simp
 clear aC hc fJ fK hf
 go_enter Tryz.func24,Tryz.ntmps24
 go_wp2_with fail
 refine HG.out.mono ?_
 rintro x w2 ⟨rfl,hb2⟩
 rw[HC.out]
 have iP:=aU.out.ch hp0 (Ch.of hb2) (aU.out.x.moved hb2) (Nat.le_refl _)
 obtain⟨⟨d0,d1,d2,d3,d4,d5,d6⟩,g0,g1,g2,g3,g4,g5,g6⟩:=aM iP.x.hh
 obtain⟨b9,f9,q9,m9,e9,bF,bZ,yH⟩:=wT (i:=i) iP.ir HF.out.ra (by omega)
 simp only[Value.slice.injEq,true_and] at e9
 obtain⟨rfl,rfl⟩:=e9
 have H2:=Lib.hid (And.intro iP.c yH)
 clear hb2 iP yH
 go_wp2_with fail
 exact⟨rfl,m9,rfl,H2.out.2,H2.out.1⟩
theorem Nq (N p k k0 d0:Nat) (U:List Uw) (V:Pm.Ws) (hU:lS N U V) (hN:N≤100000) (wv tv rv ti ri:Value) (dz dA dB dD:Value) (aD:List (TK×Value×Value)) (aG:List (RU×Value)) (lt lr:List Int) (w0 w:World) (h0:PI w0 p U k0 d0 wv dz dA dB dD) (aC:LI w0 w p U k wv tv rv ti ri aD aG lt lr) (hf:mP N aD aG lt lr)
 (hre:∀(k:Nat) (q:Uw),U[k]? = some q→q.1=4→∀w,Calls Tryz.prog 14 #[.string q.2.1] w fun x w'=>(∃(c:Int) (z:Nat),oM c z w x w'∧c≠0∧c≠2∧q.2.2+1+z≤N)∨∃e:RE,e.Fit∧lZ e w x w') :
 Calls Tryz.prog 23 #[.pointer (some ⟨p,0,none⟩)] w (EJ N p k U wv w0):=by
 obtain⟨⟨qk,qb,qn⟩,hqq⟩:=hU.v.at aC.x.le
 by_cases h5:qk=5
 · exact Nr N p k k0 d0 U V hU hN wv tv rv ti ri dz dA dB dD aD aG lt lr w0 w h0 aC hf qk qb qn hqq h5
 · cases hT : tst 1 ⟨#[116, 111, 107]⟩ (qk, qb, qn) with
   | true=>exact Ld N p k k0 d0 U V hU hN wv tv rv ti ri dz dA dB dD aD aG lt lr w0 w h0 aC hf qk qb qn hqq hT hre
   | false=>exact Jc N p k k0 d0 U V hU hN wv tv rv ti ri dz dA dB dD aD aG lt lr w0 w h0 aC hf qk qb qn hqq (by unfold iU;simpa using h5) hT
theorem Le (N p k:Nat) (U:List Uw) (wv tv rv ti ri:Value) (aD:List (TK×Value×Value)) (aG:List (RU×Value)) (lt lr:List Int) (w0 w:World) (hp0:p<w0.heap.size) (aC:LI w0 w p U k wv tv rv ti ri aD aG lt lr) (hf:mP N aD aG lt lr)
 (iH:aD.length≤1000) (hRl:aG.length≤1000) (fJ:oK (aD.map (·.1))) (fK:oL (aG.map (·.1))) :
 Calls Tryz.prog 24 #[.pointer (some ⟨p,0,none⟩)] w fun x w'=>(∃(c:Int) (z:Nat),x=dL c z∧c≠0∧z≤N∧Ch w0 w' p)∨(x=.returned (.tuple #[])∧(jd (aD.map (·.1)) (aG.map (·.1))).1=0∧LI w0 w' p U k wv tv rv ti ri aD aG lt lr):=by
 obtain⟨⟨c,a⟩,hc⟩:∃e,e=jd (aD.map (·.1)) (aG.map (·.1)):=⟨_,rfl⟩
 replace hc:=hc.symm
 by_cases hc0:c=0
 · have h1 : (jd (aD.map (·.1)) (aG.map (·.1))).1 = 0 := by rw [hc]; exact hc0
   exact(BS p k U wv tv rv ti ri aD aG lt lr w0 w hp0 aC iH hRl fJ fK h1).mono fun x w' h=>.inr ⟨h.1,h1,h.2⟩
 · have hnt := hf.nt
   have hnr:=hf.nr
   have K:∀ {f:FuncId} {av:Array Value} {Q:Ending→World→Prop},Calls Tryz.prog f av w (fun x w'=>∃z:Nat,x=dL c z∧z≤N∧Ch w0 w' p)→Calls Tryz.prog f av w fun x w'=>(∃(c:Int) (z:Nat),x=dL c z∧c≠0∧z≤N∧Ch w0 w' p)∨Q x w':=fun h=>h.mono fun x w' ⟨z,h1,h2,h3⟩=>.inl ⟨c,z,h1,hc0,h2,h3⟩
   rcases Np hc hc0 with⟨h1,ha⟩|⟨h1,ha⟩|⟨⟨h1,h2⟩,⟨i,hi,ha⟩|⟨h8,ha⟩|⟨h8,i,hi,ha⟩⟩
   · rw [List.length_map] at h1
     have hl0:lt=[]:=List.eq_nil_of_length_eq_zero (by omega)
     subst hl0
     refine K ((zM p k U wv tv rv ti ri aD aG lr w0 w hp0 aC iH hRl fJ fK c hc0 a (by omega) hc).mono ?_)
     rintro x w' ⟨rfl,h9⟩
     exact⟨0,rfl,Nat.zero_le _,h9.c⟩
   · rw [List.length_map] at h1
     exact K (Ja N p k U wv tv rv ti ri aD aG lt lr w0 w hp0 aC hf iH hRl fJ fK c a hc0 hc ha (by omega))
   · rw [List.length_map] at h1 h2 hi
     exact K (Jb N p k U wv tv rv ti ri aD aG lt lr w0 w hp0 aC hf iH hRl fJ fK c a hc0 hc i (by omega) ha (by omega))
   · rw [List.length_map] at h1 h2 h8 ha
     exact K (GX N p k U wv tv rv ti ri aD aG lt lr w0 w hp0 aC hf iH hRl fJ fK c a hc0 hc (by rw[hnt];exact ha) (by omega) (by omega) (by omega))
   · rw [List.length_map] at h1 h2 h8 hi ha
     exact K (GY N p k U wv tv rv ti ri aD aG lt lr w0 w hp0 aC hf iH hRl fJ fK c a hc0 hc i (by omega) (by rw[hnt];exact ha) (by omega) (by omega) (by omega))
theorem Ko (s:ByteArray) (W:List (Nat×Wt)) (w:World) (hs:s.size≤100000) (hr:rs (sb s)=.ok W) (hp:∀v∈W.map (vw (sb s)),v.1≠0) (Rw:lS s.size (nD s W) (W.map (vw (sb s))))
 (hre:∀(k:Nat) (q:Uw),(nD s W)[k]? = some q→q.1=4→∀w,Calls Tryz.prog 14 #[.string q.2.1] w fun x w'=>(∃(c:Int) (z:Nat),oM c z w x w'∧c≠0∧c≠2∧q.2.2+1+z≤s.size)∨∃e:RE,e.Fit∧lZ e w x w') :
 Calls Tryz.prog 10 #[.string s] w fun x w'=>(∃(c:Int) (z:Nat),(c≠0∧z≤s.size)∧zT c z w x w')∨∃(T:List TK) (R:List RU),((T.length≤1000∧R.length≤1000)∧oK T∧oL R∧(jd T R).1=0)∧Cz T R w x w':=by
 have ng:∀(fn:Fn) (first cap:Array Value) (w:World),(Instr.makeFunc fn first cap).run Tryz.prog w=.ok (.func fn first cap) w:=fun _ _ _ _=>rfl
 have hfd0:∀(a c:Int) (b:ByteArray) (w:World),(Instr.field 72 (.agg #[.int .i64 a,.string b,.int .i64 c]) 0).run Tryz.prog w=.ok (.int .i64 a) w:=fun _ _ _ _=>by kernel_rfl
 have hV:=xK hp
 obtain⟨V,nM⟩:∃V,V=W.map (vw (sb s)):=⟨_,rfl⟩
 have tY:=rZ s W
 have tZ:=wS s W
 obtain⟨U,hU⟩:∃U,U=nD s W:=⟨_,rfl⟩
 rw[←nM,←hU] at hV Rw
 rw[←nM] at hp
 rw[←hU] at hre
 have Wm:W.length≤100000:=by have:=Rw.len;rw[hU,rZ] at this;omega
 rw[←hU] at tY tZ
 have Rv:V.length=W.length:=by rw[nM];simp
 obtain⟨iw,hi0,hi1,hi2,hi3⟩:=sW
 obtain⟨W3,hW3⟩:∃W3,W3=(((w.alloc (.cells #[.slice none 0 0,.slice none 0 0] 26)).alloc (.cells #[.int .i64 0] 3)).alloc (.cells #[.int .i64 0] 3)):=⟨_,rfl⟩
 obtain⟨g0,g1,g2,g3,g4⟩:=lD w _ _ _ W3 hW3
 have hall:=nG s W3 hs
 unfold kF at hall
 rw[hr] at hall
 have HA:=Lib.hid hall
 have HU:=Lib.hid (And.intro tZ (And.intro hV hp))
 have HH:=Lib.hid (And.intro Rw hre)
 have hsl:(s.size:Int)≤9223372036854775807:=by omega
 have HG:=Lib.hid (And.intro hW3 (And.intro g0 (And.intro g1 (And.intro g2 (And.intro g3 g4)))))
 clear hW3 g0 g1 g2 g3 g4 hall hr tZ hV hp Rw hre nM hU
 go_enter_defers Tryz.func10,Tryz.ntmps10
 go_wp2_with fail
 obtain⟨hW3,g0,g1,g2,g3,g4⟩:=HG.out
 rw[←hW3]
 refine HA.out.mono ?_
 rintro x w4 ⟨uv,rfl,bN,hb4⟩
 have bQ:bR w w4 (.slice none 0 0) (.slice none 0 0):=bR.below ⟨g0,g1,g2,g4⟩ (by omega) hb4
 have lF:=hb4.size
 obtain⟨ou,cu,rfl⟩:=au bN
 obtain⟨d1,f1⟩:=aj bQ.h1
 obtain⟨d2,f2⟩:=aj bQ.h2
 obtain⟨W4,eT⟩:∃W4,W4=((w4.setCell ⟨w.heap.size+1,0,none⟩ (.int .i64 0)).setCell ⟨w.heap.size+1+1,0,none⟩ (.int .i64 0)):=⟨_,rfl⟩
 have yG:bR w W4 (.slice none 0 0) (.slice none 0 0):=by rw[eT];exact bQ.zero
 have hown:W4.ownsRow W3.heap.size 72 3 (.slice ou W.length cu) W.length (oC s W):=by
  rw[eT];exact aX (aX bN (by omega)) (by omega)
 have oD:W3.heap.size≤W4.heap.size:=by rw[eT];simpa [World.setCell] using lF
 have H4:=Lib.hid (And.intro yG (And.intro hown eT))
 have Wn:W3.heap.size=w.heap.size+1+1+1:=g3
 clear yG hown eT bQ bN hb4 lF hW3 g0 g1 g2 g3 g4 HG
 have hre:(W4=((w4.setCell ⟨w.heap.size+1,0,none⟩ (.int .i64 0)).setCell ⟨w.heap.size+1+1,0,none⟩ (.int .i64 0))):=H4.out.2.2
 have oN:=Lib.hid hre
 clear hre
 obtain⟨e1,Dt⟩:=aj H4.out.1.h1
 have Az:w.heap.size+1+1+1≤W4.heap.size:=by omega
 go_wp2_with (first|(with_reducible rw[←oN.out])|(at_builtin;refine aW _ rfl _ _ 67 rfl W3.heap.size 72 iw _ 3 32 Tryz.underlying67 hi0 hi1 hi2 hi3 rfl (by decide) (.slice ou W.length cu) W.length (oC s W) rfl (by repeat (first|exact H4.out.2.1|refine World.ownsRow.alloc ?_ _|refine bX ?_)) _ 1 _ rfl (by exact bE rfl (by simp)) rfl (by simp[Value.oneCell']) (by unfold maxLen;omega) (by omega) (by simp;omega) ?_;intro v5 w5 hown5 hg5 rO hb5;obtain⟨o5,c5,rfl⟩:=au hown5))
 have om:Below W3.heap.size W4 w5:=Below.trans (jo oD (ah (Below.refl _ _) _)) hb5
 have dM:bR w w5 (.slice none 0 0) (.slice none 0 0):=H4.out.1.BR (by omega) om
 obtain⟨W6,bA⟩:∃W6,W6=w5.alloc (.cells #[.slice o5 (W.length+1) c5,.int .i64 0,.int .i64 0,.slice none 0 0,.slice none 0 0,.slice none 0 0,.slice none 0 0] 74):=⟨_,rfl⟩
 obtain⟨p,hp⟩:∃p,p=w5.heap.size:=⟨_,rfl⟩
 have P6:w.heap.size+1+1+1≤w5.heap.size:=Nat.le_trans Az om.size
 have hpi:PI W6 p U 0 0 (.slice o5 (W.length+1) c5) (.slice none 0 0) (.slice none 0 0) (.slice none 0 0) (.slice none 0 0):=by
  rw[bA]
  refine⟨by rw[hp];exact heap_alloc_new w5 _,?_,fun b off cap e=>?_,by omega,by omega,fun j q hq h0=>?_⟩
  · rw [tY, HU.out.1]
    exact(Row.owned hown5).below (ah (Below.refl _ _) _)
  · rw [tY] at e
    simp only[Value.slice.injEq,true_and] at e
    obtain⟨rfl,rfl⟩:=e
    have:=(hown5.lt b rfl).2
    omega
  · have h1 := (List.getElem?_eq_some_iff.1 hq).1
    rcases Nat.lt_or_ge (j+1) U.length with h2|h2
    · exact h2
    · have : j = V.length := by omega
      subst this
      exact absurd (HU.out.2.1.fin q hq) h0
 have dZ:bR w W6 (.slice none 0 0) (.slice none 0 0):=by rw[bA];exact dM.below (by omega) (ah (Below.refl _ _) _)
 have rD:p<W6.heap.size:=hpi.lt
 have H6:=Lib.hid (And.intro hpi dZ)
 have kH:=Lib.hid bA
 have HP:=Lib.hid hp
 have hps:w.heap.size+1+1<p:=by omega
 clear hown5 hg5 rO hb5 om dM hpi dZ bA hp d1 f1 d2 f2 e1 Dt
 rw[←kH.out]
 simp only[←HP.out]
 go_loopg [] (U.length) (fun g wx=>∃(k:Nat) (tv rv ti ri:Value) (aD:List (TK×Value×Value)) (aG:List (RU×Value)) (lt lr:List Int),k+g=U.length∧LI W6 wx p U k (.slice o5 (W.length+1) c5) tv rv ti ri aD aG lt lr∧mP s.size aD aG lt lr)
 case atStart=>exact⟨0,_,_,_,_,[],[],[],[],by omega,LI.start H6.out.1,⟨by simp,by simp,by simp,by simp,rfl,rfl⟩⟩
 case round=>
  obtain⟨k,tv,rv,ti,ri,aD,aG,lt,lr,hkg,aC,hlf⟩:=hrel
  have hkl:=aC.x.le
  obtain⟨⟨qk,qb,qn⟩,hqq⟩:=HU.out.2.1.at hkl
  have aU:=Lib.hid aC
  have HQ:=Lib.hid hqq
  have Rx:=Lib.hid hlf
  have hn1:=aC.n1
  have hn2:=aC.n2
  have hul:=HH.out.1.len
  clear aC hqq hlf
  by_cases hq0:qk=0
  · subst hq0
    go_wp2_with fail
    refine(bD p k 0 U _ tv rv ti ri ((0:Int),qb,qn) _ aU.out.x HQ.out).mono ?_
    rintro x w7 ⟨rfl,gY⟩
    dsimp only[iZ]
    have H7:=Lib.hid (aU.out.ch rD (Ch.of gY) (aU.out.x.moved gY) (Nat.le_refl _))
    clear gY
    go_wp2_with fail
    have fJ:oK (aD.map (·.1)):=fun i t ht=>by obtain⟨q,hq,rfl⟩:=List.mem_map.1 (List.mem_of_getElem? ht);exact Rx.out.t q hq
    have fK:oL (aG.map (·.1)):=fun i t ht=>by obtain⟨q,hq,rfl⟩:=List.mem_map.1 (List.mem_of_getElem? ht);exact Rx.out.r q hq
    have YA:=Lib.hid (And.intro fJ fK)
    refine(Le s.size p k U _ tv rv ti ri aD aG lt lr W6 _ rD H7.out Rx.out (by omega) (by omega) fJ fK).mono ?_
    clear fJ fK
    rintro x w8 (⟨c,z,rfl,hcc,hzz,hc8⟩|⟨rfl,xQ,bY⟩)
    · skip
      have aZ:bR w w8 (.slice none 0 0) (.slice none 0 0):=H6.out.2.ch (p:=p) (by omega) hps hc8
      have GU:W6.heap.size≤w8.heap.size:=hc8.size
      have Wq:=Lib.hid (And.intro hcc hzz)
      clear hc8 hcc hzz
      go_wp2_with fail
      refine leaves_cons (f:=20) (args:=#[.pointer (some ⟨w.heap.size,0,none⟩),.pointer (some ⟨w.heap.size+1,0,none⟩),.pointer (some ⟨w.heap.size+1+1,0,none⟩)]) (by simp) (by simp[go_sem]) ?_
      refine(l6 _ _ _ c z _ _ _ _ w8 aZ.h0 aZ.h1 aZ.h2 (by omega) (by omega) (by omega)).mono ?_
      rintro x u' w9 ⟨rfl,rfl,K0,K1,K2,hbel⟩
      have HB:=aZ.aV.trans (hbel _ (Nat.le_refl _) (by omega) (by omega) (by omega))
      obtain⟨⟨d0,d0'⟩,g0,g0'⟩:=dV K0
      obtain⟨d1,g1⟩:=aj K1
      obtain⟨d2,g2⟩:=aj K2
      have HR:zT c z w (.returned (.tuple #[.agg #[.slice none 0 0,.slice none 0 0],.int .i64 c,.int .i64 z])) w9:=⟨rfl,HB⟩
      simp[Leaves,settle,results,Tryz.results10,go_sem,d0,d0',d1,d2]
      exact .inl ⟨c,z,Wq.out,HR⟩
    have Zj:=Lib.hid xQ
    clear xQ
    have GU:W6.heap.size≤w8.heap.size:=bY.c.size
    obtain⟨ot,ct,yI⟩:=au bY.tk.row
    obtain⟨BU,cr,p8⟩:=au bY.ru.row
    subst yI p8
    have aZ:bR w w8 (.slice none 0 0) (.slice none 0 0):=H6.out.2.ch (p:=p) (by omega) hps bY.c
    obtain⟨⟨c0,c1,c2,c3,c4,vo,c6⟩,f0,f1,f2,f3,f4,f5,f6⟩:=aM bY.x.hh
    obtain⟨⟨d0,d0'⟩,g0,g0'⟩:=dV aZ.h0
    obtain⟨d1,g1⟩:=aj aZ.h1
    obtain⟨d2,g2⟩:=aj aZ.h2
    have n0:¬p=w.heap.size:=by omega
    have n1:¬p=w.heap.size+1:=by omega
    have n2:¬p=w.heap.size+1+1:=by omega
    have n3:¬w.heap.size=p:=by omega
    have n4:¬w.heap.size+1=p:=by omega
    have n5:¬w.heap.size+1+1=p:=by omega
    obtain⟨W9,bP⟩:∃W9,W9=(((w8.setCell ⟨w.heap.size,0,none⟩ (.slice ot aD.length ct)).setCell ⟨w.heap.size,1,none⟩ (.slice BU aG.length cr)).setCell ⟨w.heap.size+1,0,none⟩ (.int .i64 0)).setCell ⟨w.heap.size+1+1,0,none⟩ (.int .i64 0):=⟨_,rfl⟩
    have gB:bR w W9 (.slice ot aD.length ct) (.slice BU aG.length cr):=by rw[bP];exact(aZ.set).zero
    have hag : Ag (fun j => p < j) w8 W9 := by
     rw[bP]
     refine(((((Ag.refl _ _).setCell (fun h=>?_) _).setCell (fun h=>?_) _).setCell (fun h=>?_) _).setCell (fun h=>?_) _)
     · have h9:p<w.heap.size:=h;omega
     · have h9:p<w.heap.size:=h;omega
     · have h9:p<w.heap.size+1:=h;omega
     · have h9:p<w.heap.size+1+1:=h;omega
    have htk:iO W9 (.slice ot aD.length ct) (aD.map (·.1)):=by
     refine J8.are (Own.ag bY.tk (hag.sub (fun j _ hj=>?_)))
     rcases hj with h1|h1
     · exact h1.1
     · have:=(bY.tk.row.lt j h1).1;show p<j;omega
    have BZ:jE W9 (.slice BU aG.length cr) (aG.map (·.1)):=by
     refine Ns.are (Own.ag bY.ru (hag.sub (fun j _ hj=>?_)))
     rcases hj with h1|h1
     · exact h1.1
     · have:=(bY.ru.row.lt j h1).1;show p<j;omega
    have xP:w.heap.size+1+1<W9.heap.size:=by rw[bP];simp[World.setCell];omega
    have H9:=Lib.hid (And.intro gB (And.intro htk (And.intro BZ xP)))
    have uf:=Lib.hid bP
    clear gB htk BZ hag bY aZ bP xP
    go_wp2_with fail
    rw[←uf.out]
    clear c0 c1 c2 c3 c4 vo c6 f0 f1 f2 f3 f4 f5 f6 d0 d0' g0 g0' d1 g1 d2 g2
    refine leaves_cons (f:=20) (args:=#[.pointer (some ⟨w.heap.size,0,none⟩),.pointer (some ⟨w.heap.size+1,0,none⟩),.pointer (some ⟨w.heap.size+1+1,0,none⟩)]) (by simp) (by simp[go_sem]) ?_
    refine(zN _ _ _ _).mono ?_
    rintro x u' w'' ⟨rfl,rfl,rfl⟩
    have hbf:=ah (Below.refl W9.heap.size W9) (.cells #[.int .i64 0,.int .i64 0] 65)
    have mE:=H9.out.1.below H9.out.2.2.2 hbf
    have Ca:=H9.out.2.1.moved hbf
    have Cb:=H9.out.2.2.1.moved hbf
    obtain⟨GZ,G5⟩:∃GZ,GZ=W9.alloc (.cells #[.int .i64 0,.int .i64 0] 65):=⟨_,rfl⟩
    rw[←G5] at mE Ca Cb ⊢
    clear G5 hbf
    obtain⟨⟨d0,d0'⟩,g0,g0'⟩:=dV mE.h0
    obtain⟨d1,g1⟩:=aj mE.h1
    obtain⟨d2,g2⟩:=aj mE.h2
    have HR:Cz (aD.map (·.1)) (aG.map (·.1)) w (.returned (.tuple #[.agg #[.slice ot aD.length ct,.slice BU aG.length cr],.int .i64 0,.int .i64 0])) GZ:=⟨_,_,rfl,Ca,Cb,mE.aV⟩
    simp[Leaves,settle,results,Tryz.results10,go_sem,d0,d0',d1,d2]
    exact .inr ⟨_,_,⟨⟨by rw[List.length_map];omega,by rw[List.length_map];omega⟩,YA.out.1,YA.out.2,Zj.out⟩,HR⟩
  · have he0 : (qk == 0) = false := by simpa using hq0
    have Zk:=aU.out.x.small
    go_wp2_with fail
    refine(bD p k 0 U _ tv rv ti ri (qk,qb,qn) _ aU.out.x HQ.out).mono ?_
    rintro x w7 ⟨rfl,gY⟩
    dsimp only[iZ]
    have H7:=Lib.hid (aU.out.ch rD (Ch.of gY) (aU.out.x.moved gY) (Nat.le_refl _))
    clear gY
    go_wp2_with fail
    refine(Nq s.size p k 0 0 U V HH.out.1 hs _ tv rv ti ri _ _ _ _ aD aG lt lr W6 _ H6.out.1 H7.out Rx.out HH.out.2).mono ?_
    rintro x w8 (⟨c,z,rfl,hcc,-,hzz,hc8⟩|⟨rfl,k',tv',rv',Nt,Nu,Zl,Zm,lt',lr',hkk,Wu,bY⟩)
    · skip
      have aZ:bR w w8 (.slice none 0 0) (.slice none 0 0):=H6.out.2.ch (p:=p) (by omega) hps hc8
      have GU:W6.heap.size≤w8.heap.size:=hc8.size
      have Wq:=Lib.hid (And.intro hcc hzz)
      clear hc8 hcc hzz
      go_wp2_with fail
      refine leaves_cons (f:=20) (args:=#[.pointer (some ⟨w.heap.size,0,none⟩),.pointer (some ⟨w.heap.size+1,0,none⟩),.pointer (some ⟨w.heap.size+1+1,0,none⟩)]) (by simp) (by simp[go_sem]) ?_
      refine(l6 _ _ _ c z _ _ _ _ w8 aZ.h0 aZ.h1 aZ.h2 (by omega) (by omega) (by omega)).mono ?_
      rintro x u' w9 ⟨rfl,rfl,K0,K1,K2,hbel⟩
      have HB:=aZ.aV.trans (hbel _ (Nat.le_refl _) (by omega) (by omega) (by omega))
      obtain⟨⟨d0,d0'⟩,g0,g0'⟩:=dV K0
      obtain⟨d1,g1⟩:=aj K1
      obtain⟨d2,g2⟩:=aj K2
      have HR:zT c z w (.returned (.tuple #[.agg #[.slice none 0 0,.slice none 0 0],.int .i64 c,.int .i64 z])) w9:=⟨rfl,HB⟩
      simp[Leaves,settle,results,Tryz.results10,go_sem,d0,d0',d1,d2]
      exact .inl ⟨c,z,Wq.out,HR⟩
    have yJ:=Lib.hid (And.intro bY Wu)
    have P9:=bY.x.le
    clear bY Wu
    go_wp2_with fail
    go_roundg (U.length-k')
    case measure=>omega
    case rel=>exact⟨k',tv',rv',Nt,Nu,Zl,Zm,lt',lr',by omega,yJ.out.1,yJ.out.2⟩
end Go.Proofs.YtfkmajjgkdjncaaGreatDoor
