/- Merged. -/
import Derived.Test.YtfkmajjgkdjncaaGreatDoorPaBad0
import Derived.Test.YtfkmajjgkdjncaaGreatDoorPaEscF
set_option linter.unusedVariables false
set_option linter.unusedSimpArgs false
set_option maxHeartbeats 4000000
set_option maxRecDepth 100000
namespace Go.Proofs.YtfkmajjgkdjncaaGreatDoor
open Go.RowKit De Wd
theorem AY (p k d:Nat) (s:ByteArray) (L:Its) (v:Value) (w:World) (h:XI w p s L k d v) (h1:Sc L) (zW:Pm.eG (pk L k)=false) :
 Calls Tryz.prog 69 #[.pointer (some ⟨p,0,none⟩)] w fun x w'=>jv w w' (.mk 1 [] []) x∧Ch w w' p∧XI w' p s L k d v:=by
 have dw:=h.lt
 have hA:=h.moved (ah (Below.refl _ _) (.cells #[.int .i64 0,.slice none 0 0,.slice none 0 0] 35))
 obtain⟨W0,hW0⟩:∃W0,W0=w.alloc (.cells #[.int .i64 0,.slice none 0 0,.slice none 0 0] 35):=⟨_,rfl⟩
 have hr0:W0.heap[w.heap.size]? = some (.cells #[.int .i64 0,.slice none 0 0,.slice none 0 0] 35 (0,0)):=by rw[hW0];exact heap_alloc_new w _
 have hcW:Ch w W0 p:=by rw[hW0];exact Ch.of (ah (Below.refl _ _) _)
 rw[←hW0] at hA
 obtain⟨⟨d0,d1,d2⟩,g0,g1,g2⟩:=ay hr0
 have wZ:=Lib.hid (And.intro h (And.intro hr0 hcW))
 have HA:=Lib.hid hA
 have HW0:=Lib.hid hW0
 clear h hA hr0 hcW hW0 d0 d1 d2 g0 g1 g2
 go_enter Tryz.func69,Tryz.ntmps69
 go_wp2_with (with_reducible rw[←HW0.out])
 refine(iI p k d s L v _ HA.out h1).mono ?_
 rintro x wz ⟨rfl,hwz⟩
 rw[zW]
 have hrz:=(hwz.block _ (lt_of_some wZ.out.2.1)).trans wZ.out.2.1
 obtain⟨⟨d0,d1,d2⟩,g0,g1,g2⟩:=ay hrz
 have HF:=Lib.hid (qw (S:=fun j=>w.heap.size<j) (e:=.mk 1 [] []) (sv:=.slice none 0 0) (lv:=.slice none 0 0) wZ.out.1 hrz rfl (wZ.out.2.2.trans (Ch.of hwz)) (HA.out.moved hwz) (fun w2 _=>Ou) (fun j hj=>hj))
 clear hwz hrz
 go_wp2_with fail
 obtain⟨W9,hW,⟨⟨e0,e1,e2⟩,m0,m1,m2⟩,hre,bZ,eu⟩:=HF.out
 have HW:=Lib.hid hW
 clear hW HF
 rw[show(.int .i64 1:Value)=.int .i64 (RE.mk 1 [] []).kind from rfl,←HW.out]
 refine bodyPost_ret (v:=.agg #[.int .i64 1,.slice none 0 0,.slice none 0 0]) (by simp[results,Tryz.results69,go_sem,e0,e1,e2,m0,m1,m2,RE.kind]) rfl ⟨hre,bZ,eu⟩
structure EC (s:ByteArray) (L:Its):Prop where
 small:s.size≤100000
 lim:∀k,aA L s.size k≤s.size
 mono:∀i j,i≤j→aA L s.size i≤aA L s.size j
 next:∀i,i<L.length→aA L s.size i+1≤aA L s.size (i+1)
 sc:Sc L
def CT (p:Nat) (s:ByteArray) (L:Its) (f:FuncId) (d k:Nat) (e:RE) (k':Nat):Prop:=
 ∀v w,XI w p s L k d v→Calls Tryz.prog f #[.pointer (some ⟨p,0,none⟩)] w fun x w'=>jv w w' e x∧Ch w w' p∧XI w' p s L k' d v
theorem LU {L:Its} {k j:Nat} (h:Pm.dh L k j):k≤j:=by
 induction h with
 | stop _=>omega
 | esc _ _ _ ih=>omega
 | go _ _ _ _ ih=>omega
theorem Dv {L:Its} {k j:Nat} (h:Pm.jI L k j):k≤j:=by
 induction h with
 | stop _=>omega
 | go _ _ _ ih=>omega
open Pm in
theorem uD (p:Nat) (s:ByteArray) (L:Its) (hS:EC s L):∀ {d k:Nat} {e:RE} {k':Nat},iG L s.size (gP s) d k e k'→CT p s L 30 d k e k':=by
 intro d k e k' h
 suffices k≤k'∧CT p s L 30 d k e k' from this.2
 refine iG.rec
  (motive_1:=fun d k e k' _=>k≤k'∧CT p s L 30 d k e k')
  (motive_2:=fun d a k e k' _=>k≤k'∧zw L (fun k b k'=>k≤k'∧CT p s L 69 d k b k') a k e k')
  (motive_3:=fun d k e k' _=>k≤k'∧CT p s L 69 d k e k')
  (motive_4:=fun d a k e k' _=>k≤k'∧zx L (fun k b k'=>k<k'∧CT p s L 111 d k b k') a k e k')
  (motive_5:=fun d k e k' _=>k<k'∧CT p s L 111 d k e k')
  (motive_6:=fun a k e k' _=>k≤k'∧vC L a k e k')
  (motive_7:=fun d k e k' _=>k<k'∧CT p s L 139 d k e k') ?_ ?_ ?_ ?_ ?_ ?_ ?_ ?_ ?_ ?_ ?_ ?_ ?_ ?_ h
 · intro d k k1 k2 a e _ _ ih1 ih2
   exact⟨by omega,fun v w hx=>EZ p k d k1 k2 s L v a e w hx _ (fun k b k' h=>h.1) ih1 ih2.2 (fun w k a k1 hp hx=>hp.2 v w hx)⟩
 · intro d k a h
   exact⟨Nat.le_refl _,.stop h⟩
 · intro d k k1 k2 a b e h _ _ ih1 ih2
   exact⟨by omega,.go h ih1 ih2.2⟩
 · intro d k h
   exact⟨Nat.le_refl _,fun v w hx=>AY p k d s L v w hx hS.sc h⟩
 · intro d k k1 k2 a e h _ _ ih1 ih2
   exact⟨by omega,fun v w hx=>Jq p k d k1 k2 s L v a e w hx hS.sc _ (fun k b k' h=>h.1) ih1 ih2.2 h (fun w k a k1 hp hx=>hp.2 v w hx)⟩
 · intro d k a h
   exact⟨Nat.le_refl _,.stop h⟩
 · intro d k k1 k2 a b e h _ _ ih1 ih2
   exact⟨by omega,.go h ih1 ih2.2⟩
 · intro d k k1 k2 a e _ _ ih1 ih2
   exact⟨by omega,fun v w hx=>E5 p k d k1 k2 s L v a e w hx ih2.2 (fun w hx=>ih1.2 v w hx)⟩
 · intro k a h
   exact⟨Nat.le_refl _,.stop h⟩
 · intro k k2 a e h _ ih
   exact⟨by omega,.go h ih.2⟩
 · intro d k k1 e h hd _ h2 ih
   exact⟨by omega,fun v w hx=>AZ p k d (k1+1) s L v e w hx h (fun w hx=>zy p (k+1) d _ k1 s L v e w hx hd h2 (fun w hx=>ih.2 v w hx))⟩
 · intro d k j S h hsc h2 c
   have hkj:=LU hsc
   have hkl:=fI h (by decide)
   exact ⟨by omega, fun v w hx => A8 p k d (j + 1) s L v _ w hx h (fun w hx => by
    have h3:=hS.next k hkl
    have h4:=hS.mono (k+1) j hkj
    have h5:=hS.lim j
    have h6:=hS.small
    exact Ku p (k+1) d (aA L s.size k+1) j s L v S w hx hsc h2 (by omega) (by omega) (by omega) c) (by have:=hS.lim k;have:=hS.small;omega)⟩
 · intro d k j S h h1 hsc hj c
   have hkj:=Dv hsc
   exact ⟨by omega, fun v w hx => A9 p k d (j + 1) s L v _ w hx h (fun w hx => by
    have h4:=hS.mono k (j+1) (by omega)
    have h5:=hS.lim (j+1)
    have h6:=hS.small
    exact IG p (k+1) d (aA L s.size k) j s L v S w hx h1 hsc hj (by omega) (by omega) (by omega) c)⟩
 · intro d k r h ha
   subst h
   have h9:jN (pk L k)=true:=ha
   unfold jN at h9
   simp at h9
   exact⟨by omega,fun v w hx=>Ba p k d s L v w hx (by omega) (by omega) (by omega) (by omega) (by omega)⟩
inductive Bb (L:Its) (P:Nat→RE→Nat→Prop) (F:Nat→Int→Nat→Prop):RE→Nat→Int→Nat→Prop
 | bad {k z:Nat} {a:RE} {c:Int} (h:pk L k=124) (p:F (k+1) c z):Bb L P F a k c z
 | go {k k1 z:Nat} {a b:RE} {c:Int} (h:pk L k=124) (p:P (k+1) b k1) (r:Bb L P F (.mk 4 [] [a,b]) k1 c z):Bb L P F a k c z
theorem Bb.inv {L:Its} {P:Nat→RE→Nat→Prop} {F:Nat→Int→Nat→Prop} {a:RE} {k z:Nat} {c:Int} (h:Bb L P F a k c z):(pk L k=124∧F (k+1) c z)∨(pk L k=124∧∃b k1,P (k+1) b k1∧Bb L P F (.mk 4 [] [a,b]) k1 c z):=by
 cases h with
 | bad h p=>exact .inl ⟨h,p⟩
 | go h p r=>exact .inr ⟨h,_,_,p,r⟩
inductive Bc (L:Its) (P:Nat→RE→Nat→Prop) (F:Nat→Int→Nat→Prop):RE→Nat→Int→Nat→Prop
 | bad {k z:Nat} {a:RE} {c:Int} (h:Pm.eG (pk L k)=true) (p:F k c z):Bc L P F a k c z
 | go {k k1 z:Nat} {a b:RE} {c:Int} (h:Pm.eG (pk L k)=true) (p:P k b k1) (r:Bc L P F (.mk 3 [] [a,b]) k1 c z):Bc L P F a k c z
theorem Bc.inv {L:Its} {P:Nat→RE→Nat→Prop} {F:Nat→Int→Nat→Prop} {a:RE} {k z:Nat} {c:Int} (h:Bc L P F a k c z):(Pm.eG (pk L k)=true∧F k c z)∨(Pm.eG (pk L k)=true∧∃b k1,P k b k1∧Bc L P F (.mk 3 [] [a,b]) k1 c z):=by
 cases h with
 | bad h p=>exact .inl ⟨h,p⟩
 | go h p r=>exact .inr ⟨h,_,_,p,r⟩
theorem Ov (p k d k1 z:Nat) (c:Int) (s:ByteArray) (L:Its) (v:Value) (a:RE) (w:World) (h:XI w p s L k d v) (P:Nat→RE→Nat→Prop) (hmono:∀k b k',P k b k'→k≤k') (h1:P k a k1) (F:Nat→Int→Nat→Prop) (hl:Bb L P F a k1 c z)
 (hat:∀w k a k1,P k a k1→XI w p s L k d v→Calls Tryz.prog 69 #[.pointer (some ⟨p,0,none⟩)] w fun x w'=>jv w w' a x∧Ch w w' p∧XI w' p s L k1 d v)
 (hbt:∀w k c z,F k c z→XI w p s L k d v→Calls Tryz.prog 69 #[.pointer (some ⟨p,0,none⟩)] w fun x w'=>x=dL c z∧Ch w w' p) :
 Calls Tryz.prog 30 #[.pointer (some ⟨p,0,none⟩)] w fun x w'=>x=dL c z∧Ch w w' p:=by
 have hlt:=h.lt
 have hA:=h.moved (ah (Below.refl _ _) (.cells #[.int .i64 0,.slice none 0 0,.slice none 0 0] 35))
 have HX:=Lib.hid h
 have HA:=Lib.hid hA
 have HT:=Lib.hid hat
 have HL:=Lib.hid hl
 have oV:=Lib.hid hbt
 have sP:=Lib.hid h1
 clear h hA hat hbt hl h1
 go_enter Tryz.func30,Tryz.ntmps30
 go_wp2_with fail
 refine(HT.out _ _ _ _ sP.out HA.out).mono ?_
 rintro x w1 ⟨⟨sv,lv,rfl,hkp⟩,hch,hxi⟩
 obtain⟨⟨o1,q1,rfl⟩,⟨o2,q2,rfl⟩⟩:=hkp.here.form
 have hs1:w.heap.size<w1.heap.size:=by have:=hch.size;simp at this;omega
 have hr1:w1.heap[w.heap.size]? = some (.cells #[.int .i64 0,.slice none 0 0,.slice none 0 0] 35 (0,0)):=by rw[hch.block _ (by simp) (by omega)];exact heap_alloc_new w _
 have hpb:p≠w1.heap.size:=by omega
 have gT:=hxi.moved (ah (Below.refl _ _) (.cells #[.int .i64 a.kind,.slice o1 a.set.length q1,.slice o2 a.parts.length q2] 35))
 have hpi:qQ w (w1.alloc (.cells #[.int .i64 a.kind,.slice o1 a.set.length q1,.slice o2 a.parts.length q2] 35)) p w1.heap.size w.heap.size s L d k1 v a (.slice o1 a.set.length q1) (.slice o2 a.parts.length q2):=by
  refine⟨gT,?_,heap_alloc_new w1 _,⟨.int .i64 0,.slice none 0 0,.slice none 0 0,?_⟩,?_⟩
  · exact((Ch.of (ah (Below.refl _ _) _)).trans hch).trans (Ch.of (ah (Below.refl _ _) _))
  · rw[(ah (Below.refl w1.heap.size w1) _).block _ hs1];exact hr1
  · intro w' hag
    refine hkp w' ⟨hag.os,hag.tape,hag.output,by have:=hag.size;simp at this;omega,fun j hj hS=>?_⟩
    have hS':w.heap.size+1≤j:=by simpa using hS
    rw[hag.block j (by simp;omega) ⟨by omega,by omega⟩]
    exact(ah (Below.refl w1.heap.size w1) _).block j hj
 have oW:=Lib.hid hpi
 have hle:=hxi.le
 clear hpi gT hxi hch hkp hr1
 go_wp2_with fail
 go_loopg [] (L.length-k1) (fun g wx=>∃(a':RE) (ki:Nat) (o3 o4:Option Addr) (q3 q4:Nat),ki+g=L.length∧qQ w wx p w1.heap.size w.heap.size s L d ki v a' (.slice o3 a'.set.length q3) (.slice o4 a'.parts.length q4)∧Bb L P F a' ki c z)
 case atStart=>exact⟨a,k1,_,_,_,_,by omega,oW.out,HL.out⟩
 case round=>
  obtain⟨a',ki,o3,o4,q3,q4,hkg,hpi,hpo⟩:=hrel
  have HP:=Lib.hid hpi
  obtain⟨⟨c0,c1,c2⟩,f0,f1,f2⟩:=ay hpi.hb
  clear hpi
  rcases hpo.inv with⟨hcnd,hpp⟩|⟨hcnd,nb,kj,hpp,gU⟩
  · have HN := Lib.hid hcnd
    clear hpo hcnd
    go_wp2_with fail
    refine(iA p ki d 124 s L v _ HP.out.x (by decide)).mono ?_
    rintro x w2 ⟨rfl,hc2,hx2⟩
    rw[if_pos HN.out] at hx2
    have hki:ki<L.length:=fI HN.out (by decide)
    rw[decide_eq_true HN.out]
    have hb2:=(hc2.block _ (lt_of_some HP.out.hb) (fun e=>hpb e.symm)).trans HP.out.hb
    have hblt:=lt_of_some hb2
    obtain⟨z0,z1,z2,hz⟩:=HP.out.hr
    have hr2:=(hc2.block _ (lt_of_some hz) (by omega)).trans hz
    have je:=lt_of_some hr2
    have hbr:¬w1.heap.size=w.heap.size:=by omega
    obtain⟨⟨d0,d1,d2⟩,g0,g1,g2⟩:=ay hb2
    have bM:=HP.out.kp.to (hc2.ag.sub (fun j _ hj=>by omega))
    have HK:=Lib.hid bM
    have HC:=Lib.hid (HP.out.c.trans hc2)
    have fD:=Lib.hid hx2
    have HR2:=Lib.hid hr2
    have HB2:=Lib.hid hb2
    have gq:=Lib.hid hpp
    have lG:¬w2.heap.size=w1.heap.size:=by omega
    clear c0 c1 c2 f0 f1 f2 hb2 hz bM hc2 hx2 hr2 HP hpp
    go_wp2_with fail
    refine wp_region_any (by kernel_rfl) ?_
    try (change wpAny _ _ _ _ _ _ _ (World.drew _))
    refine wpAny_take (i:=1) (v:=.pointer (some ⟨p,0,none⟩)) rfl (by kernel_rfl) (by kernel_rfl) (by kernel_rfl) (fun _ _ _ h=>h) (Or.inl ⟨by rfl,by intro w;go_simp⟩) ?_
    refine wpAny_ready (rs:=[0,2]) (by kernel_rfl) (by simp) ?_
    refine AllReady.cons rfl (fun K hK=>?_) (AllReady.cons rfl (fun K hK=>?_) AllReady.nil)
    · go_simp
      refine hK _ _ ?_
      clear hK K
      refine wpAny_ready (rs:=[2]) (by kernel_rfl) (by simp) ?_
      refine AllReady.cons rfl (fun K hK=>?_) AllReady.nil
      go_simp
      go_at_call 69
      refine(oV.out _ _ _ _ gq.out (fD.out.moved (by repeat (first|exact Below.refl _ _|refine Below.drew ?_)))).mono ?_
      rintro x w5 ⟨rfl,aK⟩
      have HF:=Lib.hid (HC.out.trans (Ch.trans (Ch.of (Below.refl _ _).drew) aK))
      clear d0 d1 d2 g0 g1 g2 aK
      try go_wp2_with fail
      first|exact⟨rfl,HF.out⟩|exact⟨rfl,rfl,HF.out⟩
    · go_simp
      go_at_call 69
      refine(oV.out _ _ _ _ gq.out (fD.out.moved (by repeat (first|exact Below.refl _ _|refine Below.drew ?_)))).mono ?_
      rintro x w5 ⟨rfl,aK⟩
      have HF:=Lib.hid (HC.out.trans (Ch.trans (Ch.of (Below.refl _ _).drew) aK))
      clear d0 d1 d2 g0 g1 g2 aK
      try go_wp2_with fail
      first|exact⟨rfl,HF.out⟩|exact⟨rfl,rfl,HF.out⟩
  · have HN := Lib.hid hcnd
    clear hpo hcnd
    go_wp2_with fail
    refine(iA p ki d 124 s L v _ HP.out.x (by decide)).mono ?_
    rintro x w2 ⟨rfl,hc2,hx2⟩
    rw[if_pos HN.out] at hx2
    have hki:ki<L.length:=fI HN.out (by decide)
    rw[decide_eq_true HN.out]
    have hb2:=(hc2.block _ (lt_of_some HP.out.hb) (fun e=>hpb e.symm)).trans HP.out.hb
    have hblt:=lt_of_some hb2
    obtain⟨z0,z1,z2,hz⟩:=HP.out.hr
    have hr2:=(hc2.block _ (lt_of_some hz) (by omega)).trans hz
    have je:=lt_of_some hr2
    have hbr:¬w1.heap.size=w.heap.size:=by omega
    obtain⟨⟨d0,d1,d2⟩,g0,g1,g2⟩:=ay hb2
    have bM:=HP.out.kp.to (hc2.ag.sub (fun j _ hj=>by omega))
    have HK:=Lib.hid bM
    have HC:=Lib.hid (HP.out.c.trans hc2)
    have fD:=Lib.hid hx2
    have HR2:=Lib.hid hr2
    have HB2:=Lib.hid hb2
    have oZ:=Lib.hid gU
    have gq:=Lib.hid hpp
    have zX:=hmono _ _ _ hpp
    have lG:¬w2.heap.size=w1.heap.size:=by omega
    clear c0 c1 c2 f0 f1 f2 hb2 hz bM hc2 hx2 hr2 HP gU hpp
    go_wp2_with fail
    go_region_law
     (go_simp;go_at_call 69;refine(HT.out _ _ _ _ gq.out (fD.out.moved (by repeat (first|exact Below.refl _ _|refine Below.drew ?_)))).mono ?_;rintro x w5 ⟨⟨Uc,Ud,rfl,hk5⟩,aK,hx5⟩;obtain⟨⟨o5,q5,rfl⟩,⟨o6,q6,rfl⟩⟩:=hk5.here.form;have hb5:=(aK.block _ hblt (fun e=>hpb e.symm)).trans HB2.out;obtain⟨⟨e0,e1,e2⟩,m0,m1,m2⟩:=ay hb5;have jw:w1.heap.size<w5.heap.size:=Nat.lt_of_lt_of_le hblt (show w2.heap.size≤w5.heap.size from aK.size);have sQ:¬w5.heap.size=w1.heap.size:=(fun e=>absurd jw (e▸Nat.lt_irrefl _));have sS:¬w1.heap.size=w5.heap.size:=(fun e=>absurd jw (e▸Nat.lt_irrefl _)))
    all_goals (
     have jO:=(aK.block _ je (fun e=>by omega)).trans HR2.out
     have jy:=HK.out.to (((Ag.refl _ w2).drew).trans (aK.ag.sub (fun j _ hj=>by omega)))
     have jP:=Lib.hid (qQ.two (b':=nb) (n5:=w2.heap.size) 4 HX.out (HC.out.trans (Ch.trans (Ch.of (Below.refl _ _).drew) aK)) hx5 hb5 jO jy (hk5.sub (fun j _ hj=>hj)) (by omega) (Nat.le_refl _) (by omega) hblt)
     have hkl:=hx5.le
     clear hb5 jO jy e0 e1 e2 m0 m1 m2 d0 d1 d2 g0 g1 g2 aK hx5 hk5
     try go_wp2_with fail
     go_roundg (L.length-kj)
     case measure=>omega
     case rel=>exact⟨.mk 4 [] [a',nb],kj,none,some ⟨w5.heap.size,0,none⟩,0,2,by omega,jP.out,oZ.out⟩)
theorem Sg (p k d k1 z:Nat) (c:Int) (s:ByteArray) (L:Its) (v:Value) (a:RE) (w:World) (h:XI w p s L k d v) (h128:Sc L) (P:Nat→RE→Nat→Prop) (hmono:∀k b k',P k b k'→k<k') (h1:P k a k1) (F:Nat→Int→Nat→Prop) (hl:Bc L P F a k1 c z) (zW:Pm.eG (pk L k)=true)
 (hat:∀w k a k1,P k a k1→XI w p s L k d v→Calls Tryz.prog 111 #[.pointer (some ⟨p,0,none⟩)] w fun x w'=>jv w w' a x∧Ch w w' p∧XI w' p s L k1 d v)
 (hbt:∀w k c z,F k c z→XI w p s L k d v→Calls Tryz.prog 111 #[.pointer (some ⟨p,0,none⟩)] w fun x w'=>x=dL c z∧Ch w w' p) :
 Calls Tryz.prog 69 #[.pointer (some ⟨p,0,none⟩)] w fun x w'=>x=dL c z∧Ch w w' p:=by
 have hlt:=h.lt
 have hA:=h.moved (ah (Below.refl _ _) (.cells #[.int .i64 0,.slice none 0 0,.slice none 0 0] 35))
 have HX:=Lib.hid h
 have HA:=Lib.hid hA
 have HT:=Lib.hid hat
 have HL:=Lib.hid hl
 have oV:=Lib.hid hbt
 have sP:=Lib.hid h1
 have zY:=Lib.hid h128
 clear h hA hat hbt hl h1 h128
 go_enter Tryz.func69,Tryz.ntmps69
 go_wp2_with fail
 refine(iI p k d s L v _ HA.out zY.out).mono ?_
 rintro x wz ⟨rfl,hwz⟩
 rw[zW]
 have hsz:w.heap.size<wz.heap.size:=by have:=hwz.size;simp at this;omega
 have hrz:wz.heap[w.heap.size]? = some (.cells #[.int .i64 0,.slice none 0 0,.slice none 0 0] 35 (0,0)):=by rw[hwz.block _ (by simp)];exact heap_alloc_new w _
 have hcz:Ch w wz p:=(Ch.of (ah (Below.refl _ _) _)).trans (Ch.of hwz)
 have Jr:=Lib.hid (HA.out.moved hwz)
 clear hwz
 go_wp2_with fail
 refine(HT.out _ _ _ _ sP.out Jr.out).mono ?_
 rintro x w1 ⟨⟨sv,lv,rfl,hkp⟩,hch,hxi⟩
 obtain⟨⟨o1,q1,rfl⟩,⟨o2,q2,rfl⟩⟩:=hkp.here.form
 have hs1:w.heap.size<w1.heap.size:=by have:=hch.size;omega
 have hr1:w1.heap[w.heap.size]? = some (.cells #[.int .i64 0,.slice none 0 0,.slice none 0 0] 35 (0,0)):=by rw[hch.block _ hsz (by omega)];exact hrz
 have hpb:p≠w1.heap.size:=by omega
 have gT:=hxi.moved (ah (Below.refl _ _) (.cells #[.int .i64 a.kind,.slice o1 a.set.length q1,.slice o2 a.parts.length q2] 35))
 have hpi:qQ w (w1.alloc (.cells #[.int .i64 a.kind,.slice o1 a.set.length q1,.slice o2 a.parts.length q2] 35)) p w1.heap.size w.heap.size s L d k1 v a (.slice o1 a.set.length q1) (.slice o2 a.parts.length q2):=by
  refine⟨gT,?_,heap_alloc_new w1 _,⟨.int .i64 0,.slice none 0 0,.slice none 0 0,?_⟩,?_⟩
  · exact(hcz.trans hch).trans (Ch.of (ah (Below.refl _ _) _))
  · rw[(ah (Below.refl w1.heap.size w1) _).block _ hs1];exact hr1
  · intro w' hag
    refine hkp w' ⟨hag.os,hag.tape,hag.output,by have:=hag.size;simp at this;omega,fun j hj hS=>?_⟩
    have hS':wz.heap.size≤j:=hS
    rw[hag.block j (by simp;omega) ⟨by omega,by omega⟩]
    exact(ah (Below.refl w1.heap.size w1) _).block j hj
 have oW:=Lib.hid hpi
 have hle:=hxi.le
 clear hpi gT hxi hch hkp hr1 hcz hrz
 go_wp2_with fail
 go_loopg [] (L.length-k1) (fun g wx=>∃(a':RE) (ki:Nat) (o3 o4:Option Addr) (q3 q4:Nat),ki+g=L.length∧qQ w wx p w1.heap.size w.heap.size s L d ki v a' (.slice o3 a'.set.length q3) (.slice o4 a'.parts.length q4)∧Bc L P F a' ki c z)
 case atStart=>exact⟨a,k1,_,_,_,_,by omega,oW.out,HL.out⟩
 case round=>
  obtain⟨a',ki,o3,o4,q3,q4,hkg,hpi,hpo⟩:=hrel
  have HP:=Lib.hid hpi
  obtain⟨⟨c0,c1,c2⟩,f0,f1,f2⟩:=ay hpi.hb
  clear hpi
  rcases hpo.inv with⟨hcnd,hpp⟩|⟨hcnd,nb,kj,hpp,gU⟩
  · have HN := Lib.hid hcnd
    clear hpo hcnd
    go_wp2_with fail
    refine(iI p ki d s L v _ HP.out.x zY.out).mono ?_
    rintro x w2 ⟨rfl,hwz⟩
    have hc2:Ch _ w2 p:=Ch.of hwz
    have hx2:=HP.out.x.moved hwz
    clear hwz
    have hki:ki<L.length:=by have h1:=HN.out;unfold Pm.eG at h1;simp at h1;exact fI rfl (by omega)
    rw[HN.out]
    have hb2:=(hc2.block _ (lt_of_some HP.out.hb) (fun e=>hpb e.symm)).trans HP.out.hb
    have hblt:=lt_of_some hb2
    obtain⟨z0,z1,z2,hz⟩:=HP.out.hr
    have hr2:=(hc2.block _ (lt_of_some hz) (by omega)).trans hz
    have je:=lt_of_some hr2
    have hbr:¬w1.heap.size=w.heap.size:=by omega
    obtain⟨⟨d0,d1,d2⟩,g0,g1,g2⟩:=ay hb2
    have bM:=HP.out.kp.to (hc2.ag.sub (fun j _ hj=>by omega))
    have HK:=Lib.hid bM
    have HC:=Lib.hid (HP.out.c.trans hc2)
    have fD:=Lib.hid hx2
    have HR2:=Lib.hid hr2
    have HB2:=Lib.hid hb2
    have gq:=Lib.hid hpp
    have lG:¬w2.heap.size=w1.heap.size:=by omega
    clear c0 c1 c2 f0 f1 f2 hb2 hz bM hc2 hx2 hr2 HP hpp
    go_wp2_with fail
    refine wp_region_any (by kernel_rfl) ?_
    try (change wpAny _ _ _ _ _ _ _ (World.drew _))
    refine wpAny_take (i:=1) (v:=.pointer (some ⟨p,0,none⟩)) rfl (by kernel_rfl) (by kernel_rfl) (by kernel_rfl) (fun _ _ _ h=>h) (Or.inl ⟨by rfl,by intro w;go_simp⟩) ?_
    refine wpAny_ready (rs:=[0,2]) (by kernel_rfl) (by simp) ?_
    refine AllReady.cons rfl (fun K hK=>?_) (AllReady.cons rfl (fun K hK=>?_) AllReady.nil)
    · go_simp
      refine hK _ _ ?_
      clear hK K
      refine wpAny_ready (rs:=[2]) (by kernel_rfl) (by simp) ?_
      refine AllReady.cons rfl (fun K hK=>?_) AllReady.nil
      go_simp
      go_at_call 111
      refine(oV.out _ _ _ _ gq.out (fD.out.moved (by repeat (first|exact Below.refl _ _|refine Below.drew ?_)))).mono ?_
      rintro x w5 ⟨rfl,aK⟩
      have HF:=Lib.hid (HC.out.trans (Ch.trans (Ch.of (Below.refl _ _).drew) aK))
      clear d0 d1 d2 g0 g1 g2 aK
      try go_wp2_with fail
      first|exact⟨rfl,HF.out⟩|exact⟨rfl,rfl,HF.out⟩
    · go_simp
      go_at_call 111
      refine(oV.out _ _ _ _ gq.out (fD.out.moved (by repeat (first|exact Below.refl _ _|refine Below.drew ?_)))).mono ?_
      rintro x w5 ⟨rfl,aK⟩
      have HF:=Lib.hid (HC.out.trans (Ch.trans (Ch.of (Below.refl _ _).drew) aK))
      clear d0 d1 d2 g0 g1 g2 aK
      try go_wp2_with fail
      first|exact⟨rfl,HF.out⟩|exact⟨rfl,rfl,HF.out⟩
  · have HN := Lib.hid hcnd
    clear hpo hcnd
    go_wp2_with fail
    refine(iI p ki d s L v _ HP.out.x zY.out).mono ?_
    rintro x w2 ⟨rfl,hwz⟩
    have hc2:Ch _ w2 p:=Ch.of hwz
    have hx2:=HP.out.x.moved hwz
    clear hwz
    have hki:ki<L.length:=by have h1:=HN.out;unfold Pm.eG at h1;simp at h1;exact fI rfl (by omega)
    rw[HN.out]
    have hb2:=(hc2.block _ (lt_of_some HP.out.hb) (fun e=>hpb e.symm)).trans HP.out.hb
    have hblt:=lt_of_some hb2
    obtain⟨z0,z1,z2,hz⟩:=HP.out.hr
    have hr2:=(hc2.block _ (lt_of_some hz) (by omega)).trans hz
    have je:=lt_of_some hr2
    have hbr:¬w1.heap.size=w.heap.size:=by omega
    obtain⟨⟨d0,d1,d2⟩,g0,g1,g2⟩:=ay hb2
    have bM:=HP.out.kp.to (hc2.ag.sub (fun j _ hj=>by omega))
    have HK:=Lib.hid bM
    have HC:=Lib.hid (HP.out.c.trans hc2)
    have fD:=Lib.hid hx2
    have HR2:=Lib.hid hr2
    have HB2:=Lib.hid hb2
    have oZ:=Lib.hid gU
    have gq:=Lib.hid hpp
    have zX:=hmono _ _ _ hpp
    have lG:¬w2.heap.size=w1.heap.size:=by omega
    clear c0 c1 c2 f0 f1 f2 hb2 hz bM hc2 hx2 hr2 HP gU hpp
    go_wp2_with fail
    go_region_law
     (go_simp;go_at_call 111;refine(HT.out _ _ _ _ gq.out (fD.out.moved (by repeat (first|exact Below.refl _ _|refine Below.drew ?_)))).mono ?_;rintro x w5 ⟨⟨Uc,Ud,rfl,hk5⟩,aK,hx5⟩;obtain⟨⟨o5,q5,rfl⟩,⟨o6,q6,rfl⟩⟩:=hk5.here.form;have hb5:=(aK.block _ hblt (fun e=>hpb e.symm)).trans HB2.out;obtain⟨⟨e0,e1,e2⟩,m0,m1,m2⟩:=ay hb5;have jw:w1.heap.size<w5.heap.size:=Nat.lt_of_lt_of_le hblt (show w2.heap.size≤w5.heap.size from aK.size);have sQ:¬w5.heap.size=w1.heap.size:=(fun e=>absurd jw (e▸Nat.lt_irrefl _));have sS:¬w1.heap.size=w5.heap.size:=(fun e=>absurd jw (e▸Nat.lt_irrefl _)))
    all_goals (
     have jO:=(aK.block _ je (fun e=>by omega)).trans HR2.out
     have jy:=HK.out.to (((Ag.refl _ w2).drew).trans (aK.ag.sub (fun j _ hj=>by omega)))
     have jP:=Lib.hid (qQ.two (b':=nb) (n5:=w2.heap.size) 3 HX.out (HC.out.trans (Ch.trans (Ch.of (Below.refl _ _).drew) aK)) hx5 hb5 jO jy (hk5.sub (fun j _ hj=>hj)) (by omega) (Nat.le_refl _) (by omega) hblt)
     have hkl:=hx5.le
     clear hb5 jO jy e0 e1 e2 m0 m1 m2 d0 d1 d2 g0 g1 g2 aK hx5 hk5
     try go_wp2_with fail
     go_roundg (L.length-kj)
     case measure=>omega
     case rel=>exact⟨.mk 3 [] [a',nb],kj,none,some ⟨w5.heap.size,0,none⟩,0,2,by omega,jP.out,oZ.out⟩)
theorem II {L:Its} {k j:Nat} (h:Px.dh L k j):(k=j∧(k<L.length→pk L k=93))∨(k+1<L.length∧pk L k=92∧Px.dh L (k+2) j)∨(k<L.length∧pk L k≠93∧(k+1<L.length→pk L k≠92)∧Px.dh L (k+1) j):=by
 cases h with
 | stop h _=>exact .inl ⟨rfl,h⟩
 | esc h e r=>exact .inr (.inl ⟨h,e,r⟩)
 | go h e e2 r=>exact .inr (.inr ⟨h,e,e2,r⟩)
theorem E8 (p k d a j:Nat) (s:ByteArray) (L:Its) (v:Value) (w:World) (h:XI w p s L k d v) (hs:Px.dh L k j)
 (hab:a≤aA L s.size j) (hb:aA L s.size j≤s.size) (hsz:aA L s.size j-a≤100000) (hc:∀z,gP s a (aA L s.size j)=.bad z→a+z≤1000000) :
 Calls Tryz.prog 155 #[.pointer (some ⟨p,0,none⟩),.int .i64 a] w (RP (Px.nZ L s.size (gP s) a j) p s L d v w):=by
 have hsm:=h.small
 have hle:=h.le
 have dw:=h.lt
 obtain⟨ov,cv,hv,_⟩:=h.row
 have hA:=h.moved (ah (Below.refl _ _) (.cells #[.int .i64 0,.slice none 0 0,.slice none 0 0] 35))
 obtain⟨W0,hW0⟩:∃W0,W0=w.alloc (.cells #[.int .i64 0,.slice none 0 0,.slice none 0 0] 35):=⟨_,rfl⟩
 have hr0:W0.heap[w.heap.size]? = some (.cells #[.int .i64 0,.slice none 0 0,.slice none 0 0] 35 (0,0)):=by rw[hW0];exact heap_alloc_new w _
 have kg:W0.heap.size=w.heap.size+1:=by rw[hW0];simp
 have hcW:Ch w W0 p:=by rw[hW0];exact Ch.of (ah (Below.refl _ _) _)
 rw[←hW0] at hA
 have HX:=Lib.hid h
 have HA:=Lib.hid (And.intro hA (And.intro hr0 hcW))
 have HS:=Lib.hid hs
 have HB:=Lib.hid (And.intro hab (And.intro hb (And.intro hsz hc)))
 have HW0:=Lib.hid hW0
 clear h hs hab hb hsz hc hA hr0 hcW hW0
 subst hv
 go_enter Tryz.func155,Tryz.ntmps155
 go_wp2_with fail
 rw[←HW0.out]
 go_loopg [] (L.length-k) (fun g wx=>∃ki:Nat,ki+g=L.length∧XI wx p s L ki d (.slice ov L.length cv)∧Ch W0 wx p∧Px.dh L ki j)
 case atStart=>exact⟨k,by omega,HA.out.1,Ch.refl _ _,HS.out⟩
 case round=>
  obtain⟨ki,hkg,hxi,hch,hsc⟩:=hrel
  obtain⟨⟨c0,c1,c2,c3⟩,f0,f1,f2,f3⟩:=aJ hxi.hh
  have abb:=hxi.le
  have HI:=Lib.hid hxi
  have xg:=Lib.hid hch
  have Ow:(0:Int)≤(ki:Int):=by omega
  clear hxi hch
  rcases II hsc with⟨rfl,h0⟩|⟨h0,lT,hsc2⟩|⟨h0,zZ,vY,hsc2⟩
  · by_cases hkl : ki < L.length
    · have vG := Lib.hid (h0 hkl)
      have e1:decide ((ki:Int)<(L.length:Int))=true:=by simp;omega
      have e2:decide (ki<L.length)=true:=by simp;omega
      have t1:(pk L ki != 93)=false:=by rw[vG.out];rfl
      clear hsc h0
      go_wp2_with fail
      go_quiet ((go_at_call 112;exact Calls.quiet_of_same (bf p ki ki d s L _ _ (HI.out.drewN _))))
      clear c0 c1 c2 c3 f0 f1 f2 f3
      have bC:=Lib.hid (And.intro (HI.out.drewN nq) (xg.out.trans (Ch.drewN p nq)))
      obtain⟨⟨c0,c1,c2,c3⟩,f0,f1,f2,f3⟩:=aJ bC.out.1.hh
      generalize wr.drewN nq=wq at bC c0 c1 c2 c3 f0 f1 f2 f3 ⊢
      go_wp2_with fail
      refine(dx p ki ki d s L _ _ bC.out.1).mono ?_
      rintro x w1 ⟨rfl,hw⟩
      have hw:=hw.symm
      subst hw
      go_wp2_with fail
      cases hcl:gP s a (aA L s.size ki) with
      | bad z =>
       have HR:=Lib.hid (show Px.nZ L s.size (gP s) a ki=.bad 3 (a+z) by unfold Px.nZ;rw[hcl])
       refine(nH p ki d a (aA L s.size ki) z s L _ _ bC.out.1 HB.out.1 HB.out.2.1 HB.out.2.2.1 hcl (HB.out.2.2.2 z hcl)).mono ?_
       rintro x w1 ⟨rfl,hbel⟩
       have HF:=Lib.hid (RP.ze (v:=.slice ov L.length cv) (d:=d) (s:=s) (L:=L) HR.out ((HA.out.2.2.trans bC.out.2).trans (Ch.of hbel)))
       clear hbel c0 c1 c2 c3 f0 f1 f2 f3
       go_wp2_with fail
       exact⟨rfl,HF.out⟩
      | ok S =>
       have HR:=Lib.hid (show Px.nZ L s.size (gP s) a ki=.ok (.mk 2 S []) (ki+1) by unfold Px.nZ;rw[hcl];exact if_pos vG.out)
       refine(kX p ki d a (aA L s.size ki) s L _ S _ bC.out.1 HB.out.1 HB.out.2.1 HB.out.2.2.1 hcl).mono ?_
       rintro x w1 ⟨u,rfl,hown,hbel⟩
       have hx1:=bC.out.1.moved hbel
       obtain⟨ou,cu,rfl⟩:=au hown
       have HO:=Lib.hid (And.intro hown hbel)
       clear hown hbel c0 c1 c2 c3 f0 f1 f2 f3
       go_wp2_with fail
       refine(iA p ki d 93 s L _ _ hx1 (by decide)).mono ?_
       rintro x w2 ⟨rfl,hc2,hx2⟩
       rw[if_pos vG.out] at hx2
       rw[decide_eq_true vG.out]
       have fD:=Lib.hid hx2
       have xk:=Lib.hid hc2
       clear hx1 hx2 hc2
       go_wp2_with fail
       refine(kP ou S.length cu _).mono ?_
       rintro x w3 ⟨rfl,hb3⟩
       have jA:Ch W0 w3 p:=(bC.out.2.trans (Ch.of HO.out.2)).trans (xk.out.trans (Ch.of hb3))
       have hr3:w3.heap[w.heap.size]? = some (.cells #[.int .i64 0,.slice none 0 0,.slice none 0 0] 35 (0,0)):=(jA.block _ (by omega) (by omega)).trans HA.out.2.1
       have hkp : KP (fun j => wq.heap.size ≤ j) w3 (fun w2 => bI w2 (.mk 2 S []) (.slice ou S.length cu) (.slice none 0 0)) := by
        intro w' hag
        refine oz (Row.owned (dU (S:=fun j=>wq.heap.size≤j) HO.out.1 ((xk.out.ag.sub (fun j _ hj=>?_)).trans ((Ag.of hb3).trans hag)) (fun j hj=>(HO.out.1.lt j hj).1)))
        have:=bC.out.1.lt;omega
       have xq:w.heap.size<wq.heap.size:=by have:=bC.out.2.size;omega
       obtain⟨⟨d0,d1,d2⟩,g0,g1,g2⟩:=ay hr3
       have HF:=Lib.hid (qw HX.out hr3 rfl (HA.out.2.2.trans jA) (fD.out.moved hb3) hkp (fun j hj=>by omega))
       clear jA hr3 hkp hb3
       go_wp2_with fail
       obtain⟨W9,hW,⟨⟨e0,e1,e2⟩,m0,m1,m2⟩,hre,bZ,eu⟩:=HF.out
       have HW:=Lib.hid hW
       clear hW HF
       rw[show(.int .i64 2:Value)=.int .i64 (RE.mk 2 S []).kind from rfl,←HW.out]
       refine bodyPost_ret (v:=.agg #[.int .i64 2,.slice ou S.length cu,.slice none 0 0]) (by simp[results,Tryz.results155,go_sem,e0,e1,e2,m0,m1,m2,RE.kind]) rfl (RP.Kv HR.out ⟨hre,bZ,eu⟩)
    · have vG := Lib.hid (show ¬ pk L ki = 93 by rw [pq hkl]; decide)
      have e1:decide ((ki:Int)<(L.length:Int))=false:=by simp;omega
      have e2:decide (ki<L.length)=false:=by simp;omega
      clear hsc h0
      go_wp2_with fail
      go_quiet (fail)
      clear c0 c1 c2 c3 f0 f1 f2 f3
      have bC:=Lib.hid (And.intro (HI.out.drewN nq) (xg.out.trans (Ch.drewN p nq)))
      obtain⟨⟨c0,c1,c2,c3⟩,f0,f1,f2,f3⟩:=aJ bC.out.1.hh
      generalize wr.drewN nq=wq at bC c0 c1 c2 c3 f0 f1 f2 f3 ⊢
      go_wp2_with fail
      refine(dx p ki ki d s L _ _ bC.out.1).mono ?_
      rintro x w1 ⟨rfl,hw⟩
      have hw:=hw.symm
      subst hw
      go_wp2_with fail
      cases hcl:gP s a (aA L s.size ki) with
      | bad z =>
       have HR:=Lib.hid (show Px.nZ L s.size (gP s) a ki=.bad 3 (a+z) by unfold Px.nZ;rw[hcl])
       refine(nH p ki d a (aA L s.size ki) z s L _ _ bC.out.1 HB.out.1 HB.out.2.1 HB.out.2.2.1 hcl (HB.out.2.2.2 z hcl)).mono ?_
       rintro x w1 ⟨rfl,hbel⟩
       have HF:=Lib.hid (RP.ze (v:=.slice ov L.length cv) (d:=d) (s:=s) (L:=L) HR.out ((HA.out.2.2.trans bC.out.2).trans (Ch.of hbel)))
       clear hbel c0 c1 c2 c3 f0 f1 f2 f3
       go_wp2_with fail
       exact⟨rfl,HF.out⟩
      | ok S =>
       have HR:=Lib.hid (show Px.nZ L s.size (gP s) a ki=.bad 3 (aA L s.size ki) by unfold Px.nZ;rw[hcl];exact if_neg vG.out)
       refine(kX p ki d a (aA L s.size ki) s L _ S _ bC.out.1 HB.out.1 HB.out.2.1 HB.out.2.2.1 hcl).mono ?_
       rintro x w1 ⟨u,rfl,hown,hbel⟩
       have hx1:=bC.out.1.moved hbel
       obtain⟨ou,cu,rfl⟩:=au hown
       have HO:=Lib.hid (And.intro hown hbel)
       clear hown hbel c0 c1 c2 c3 f0 f1 f2 f3
       go_wp2_with fail
       refine(iA p ki d 93 s L _ _ hx1 (by decide)).mono ?_
       rintro x w2 ⟨rfl,hc2,hx2⟩
       rw[if_neg vG.out] at hx2
       rw[decide_eq_false vG.out]
       have fD:=Lib.hid hx2
       have xk:=Lib.hid hc2
       clear hx1 hx2 hc2
       go_wp2_with fail
       refine(vZ p ki d s L _ _ fD.out).mono ?_
       rintro x w3 ⟨rfl,hw3⟩
       have hw3:=hw3.symm
       subst hw3
       have HF:=Lib.hid (RP.ze (v:=.slice ov L.length cv) (d:=d) (s:=s) (L:=L) HR.out (((HA.out.2.2.trans bC.out.2).trans (Ch.of HO.out.2)).trans xk.out))
       go_wp2_with fail
       exact⟨rfl,HF.out⟩
  · have e1 : decide ((ki : Int) < (L.length : Int)) = true := by simp; omega
    have e2:decide (ki<L.length)=true:=by simp;omega
    have e3:decide ((ki:Int)+1<(L.length:Int))=true:=by simp;omega
    have e4:decide (ki+1<L.length)=true:=by simp;omega
    have t1:(pk L ki != 93)=true:=by rw[lT];rfl
    have t2:(pk L ki == 92)=true:=by rw[lT];rfl
    have vH:=Lib.hid hsc2
    have hw1:IntKind.i64.wrap ((ki:Int)+1)=(ki:Int)+1:=IntWalk.i64_in _ (by omega)
    clear hsc hsc2 lT
    go_wp2_with fail
    go_quiet ((go_at_call 112;exact Calls.quiet_of_same (bf p ki ki d s L _ _ (HI.out.drewN _))))
    clear c0 c1 c2 c3 f0 f1 f2 f3
    have bC:=Lib.hid (And.intro (HI.out.drewN nq) (xg.out.trans (Ch.drewN p nq)))
    obtain⟨⟨c0,c1,c2,c3⟩,f0,f1,f2,f3⟩:=aJ bC.out.1.hh
    generalize wr.drewN nq=wq at bC c0 c1 c2 c3 f0 f1 f2 f3 ⊢
    go_wp2_with fail
    go_quiet ((go_at_call 112;exact Calls.quiet_of_same (bf p ki ki d s L _ _ (bC.out.1.drewN _))))
    clear c0 c1 c2 c3 f0 f1 f2 f3
    have gV:=Lib.hid (And.intro (bC.out.1.drewN nq) (bC.out.2.trans (Ch.drewN p nq)))
    obtain⟨⟨c0,c1,c2,c3⟩,f0,f1,f2,f3⟩:=aJ gV.out.1.hh
    generalize wq.drewN nq=wp at gV c0 c1 c2 c3 f0 f1 f2 f3 ⊢
    clear hw1
    go_wp2_with fail
    have ea:(ki:Int)+1=((ki+1:Nat):Int):=by omega
    have eb:(ki:Int)+1+1=((ki+2:Nat):Int):=by omega
    try simp only[eb]
    try simp only[ea]
    clear ea eb
    go_roundg (L.length-(ki+2))
    case measure=>omega
    case rel=>exact⟨ki+2,by omega,(gV.out.1.at (k':=ki+1) (by omega)).at (by omega),(gV.out.2.trans (Ch.set _ _ _ _)).trans (Ch.set _ _ _ _),vH.out⟩
  · by_cases lT : pk L ki = 92
    · have hk1 : ¬ ki + 1 < L.length := fun h => vY h lT
      clear vY
      have e1:decide ((ki:Int)<(L.length:Int))=true:=by simp;omega
      have e2:decide (ki<L.length)=true:=by simp;omega
      have t1:(pk L ki != 93)=true:=by simpa using zZ
      have t2:(pk L ki == 92)=true:=by simpa using lT
      have e3:decide ((ki:Int)+1<(L.length:Int))=false:=by simp;omega
      have e4:decide (ki+1<L.length)=false:=by simp;omega
      have hw1:IntKind.i64.wrap ((ki:Int)+1)=(ki:Int)+1:=IntWalk.i64_in _ (by omega)
      have vH:=Lib.hid hsc2
      clear hsc hsc2 lT zZ
      go_wp2_with fail
      go_quiet ((go_at_call 112;exact Calls.quiet_of_same (bf p ki ki d s L _ _ (HI.out.drewN _))))
      clear c0 c1 c2 c3 f0 f1 f2 f3
      have bC:=Lib.hid (And.intro (HI.out.drewN nq) (xg.out.trans (Ch.drewN p nq)))
      obtain⟨⟨c0,c1,c2,c3⟩,f0,f1,f2,f3⟩:=aJ bC.out.1.hh
      generalize wr.drewN nq=wq at bC c0 c1 c2 c3 f0 f1 f2 f3 ⊢
      go_wp2_with fail
      go_quiet ((go_at_call 112;exact Calls.quiet_of_same (bf p ki ki d s L _ _ (bC.out.1.drewN _))))
      clear c0 c1 c2 c3 f0 f1 f2 f3
      have gV:=Lib.hid (And.intro (bC.out.1.drewN nq) (bC.out.2.trans (Ch.drewN p nq)))
      obtain⟨⟨c0,c1,c2,c3⟩,f0,f1,f2,f3⟩:=aJ gV.out.1.hh
      generalize wq.drewN nq=wp at gV c0 c1 c2 c3 f0 f1 f2 f3 ⊢
      clear hw1
      go_wp2_with fail
      have ea:(ki:Int)+1=((ki+1:Nat):Int):=by omega
      try simp only[ea]
      clear ea
      go_roundg (L.length-(ki+1))
      case measure=>omega
      case rel=>exact⟨ki+1,by omega,gV.out.1.at (by omega),gV.out.2.trans (Ch.set _ _ _ _),vH.out⟩
    · clear vY
      have vY:=lT
      clear lT
      have e1:decide ((ki:Int)<(L.length:Int))=true:=by simp;omega
      have e2:decide (ki<L.length)=true:=by simp;omega
      have t1:(pk L ki != 93)=true:=by simpa using zZ
      have t2:(pk L ki == 92)=false:=by simpa using vY
      have vH:=Lib.hid hsc2
      clear hsc hsc2 vY zZ
      go_wp2_with fail
      go_quiet ((go_at_call 112;exact Calls.quiet_of_same (bf p ki ki d s L _ _ (HI.out.drewN _))))
      clear c0 c1 c2 c3 f0 f1 f2 f3
      have bC:=Lib.hid (And.intro (HI.out.drewN nq) (xg.out.trans (Ch.drewN p nq)))
      obtain⟨⟨c0,c1,c2,c3⟩,f0,f1,f2,f3⟩:=aJ bC.out.1.hh
      generalize wr.drewN nq=wq at bC c0 c1 c2 c3 f0 f1 f2 f3 ⊢
      go_wp2_with fail
      go_quiet ((go_at_call 112;exact Calls.quiet_of_same (bf p ki ki d s L _ _ (bC.out.1.drewN _))))
      clear c0 c1 c2 c3 f0 f1 f2 f3
      have gV:=Lib.hid (And.intro (bC.out.1.drewN nq) (bC.out.2.trans (Ch.drewN p nq)))
      obtain⟨⟨c0,c1,c2,c3⟩,f0,f1,f2,f3⟩:=aJ gV.out.1.hh
      generalize wq.drewN nq=wp at gV c0 c1 c2 c3 f0 f1 f2 f3 ⊢
      go_wp2_with fail
      have ea:(ki:Int)+1=((ki+1:Nat):Int):=by omega
      try simp only[ea]
      clear ea
      go_roundg (L.length-(ki+1))
      case measure=>omega
      case rel=>exact⟨ki+1,by omega,gV.out.1.at (by omega),gV.out.2.trans (Ch.set _ _ _ _),vH.out⟩
theorem IJ (p k d z : Nat) (c : Int) (s : ByteArray) (L : Its) (v : Value) (w : World) (h : XI w p s L k d v) (hrn : pk L k = 91) (hat : ∀ w, XI w p s L (k + 1) d v → Calls Tryz.prog 155 #[.pointer (some ⟨p, 0, none⟩), .int .i64 (((aA L s.size k : Nat) : Int) + 1)] w fun x w' => x = dL c z ∧ Ch w w' p) (hpl : aA L s.size k ≤ 1000000) :
 Calls Tryz.prog 139 #[.pointer (some ⟨p,0,none⟩)] w fun x w'=>x=dL c z∧Ch w w' p:=by
 have dw:=h.lt
 have hA:=h.moved (ah (Below.refl _ _) (.cells #[.int .i64 0,.slice none 0 0,.slice none 0 0] 35))
 obtain⟨W0,hW0⟩:∃W0,W0=w.alloc (.cells #[.int .i64 0,.slice none 0 0,.slice none 0 0] 35):=⟨_,rfl⟩
 have hr0:W0.heap[w.heap.size]? = some (.cells #[.int .i64 0,.slice none 0 0,.slice none 0 0] 35 (0,0)):=by rw[hW0];exact heap_alloc_new w _
 have kg:W0.heap.size=w.heap.size+1:=by rw[hW0];simp
 have hcW:Ch w W0 p:=by rw[hW0];exact Ch.of (ah (Below.refl _ _) _)
 rw[←hW0] at hA
 obtain⟨⟨c0,c1,c2,c3⟩,f0,f1,f2,f3⟩:=aJ hA.hh
 have hkl:=fI hrn (by decide)
 have hx1:XI (W0.setCell ⟨p,2,none⟩ (.int .i64 ((k:Int)+1))) p s L (k+1) d v:=by
  have h9:=hA.at (k':=k+1) (by omega)
  rwa [show((k+1:Nat):Int)=(k:Int)+1 by omega] at h9
 obtain⟨W1,hW1⟩:∃W1,W1=W0.setCell ⟨p,2,none⟩ (.int .i64 ((k:Int)+1)):=⟨_,rfl⟩
 rw[←hW1] at hx1
 have hc1:Ch W0 W1 p:=by rw[hW1];exact Ch.set _ _ _ _
 have hs1:W1.heap.size=w.heap.size+1:=by rw[hW1,←kg];simp[World.setCell]
 have HX:=Lib.hid h
 have HA:=Lib.hid (And.intro hA (And.intro hr0 hcW))
 have H1:=Lib.hid (And.intro hx1 hc1)
 have HT:=Lib.hid hat
 have HW0:=Lib.hid hW0
 have HW1:=Lib.hid hW1
 have hk0:(0:Int)≤(k:Int):=by omega
 have hsm:=h.small
 have t40:(pk L k == 40)=false:=by rw[hrn];rfl
 have t91:(pk L k == 91)=true:=by rw[hrn];rfl
 have hpi:(0:Int)≤((aA L s.size k:Nat):Int):=by omega
 have ZO:((aA L s.size k:Nat):Int)≤1000000:=by omega
 clear h hA hat hW0 hW1 hr0 hcW hx1 hc1 hrn
 go_enter Tryz.func139,Tryz.ntmps139
 go_wp2_with (with_reducible rw[←HW0.out])
 refine(dx p k k d s L _ _ HA.out.1).mono ?_
 rintro x w1 ⟨rfl,hw⟩
 have hw:=hw.symm
 subst hw
 go_wp2_with fail
 refine(bf p k k d s L _ _ HA.out.1).mono ?_
 rintro x w1 ⟨rfl,hw⟩
 have hw:=hw.symm
 subst hw
 go_wp2_with fail
 rw[←HW1.out]
 refine(HT.out _ H1.out.1).mono ?_
 rintro x w2 ⟨rfl,hch⟩
 have HF:=Lib.hid ((HA.out.2.2.trans H1.out.2).trans hch)
 clear hch c0 c1 c2 c3 f0 f1 f2 f3
 go_wp2_with fail
 exact⟨rfl,rfl,HF.out⟩
theorem IK (p k d z : Nat) (c : Int) (s : ByteArray) (L : Its) (v : Value) (w : World) (h : XI w p s L k d v) (hrn : pk L k = 92) (hat : ∀ w, XI w p s L (k + 1) d v → Calls Tryz.prog 156 #[.pointer (some ⟨p, 0, none⟩), .int .i64 ((aA L s.size k : Nat) : Int)] w fun x w' => x = dL c z ∧ Ch w w' p) :
 Calls Tryz.prog 139 #[.pointer (some ⟨p,0,none⟩)] w fun x w'=>x=dL c z∧Ch w w' p:=by
 have dw:=h.lt
 have hA:=h.moved (ah (Below.refl _ _) (.cells #[.int .i64 0,.slice none 0 0,.slice none 0 0] 35))
 obtain⟨W0,hW0⟩:∃W0,W0=w.alloc (.cells #[.int .i64 0,.slice none 0 0,.slice none 0 0] 35):=⟨_,rfl⟩
 have hr0:W0.heap[w.heap.size]? = some (.cells #[.int .i64 0,.slice none 0 0,.slice none 0 0] 35 (0,0)):=by rw[hW0];exact heap_alloc_new w _
 have kg:W0.heap.size=w.heap.size+1:=by rw[hW0];simp
 have hcW:Ch w W0 p:=by rw[hW0];exact Ch.of (ah (Below.refl _ _) _)
 rw[←hW0] at hA
 obtain⟨⟨c0,c1,c2,c3⟩,f0,f1,f2,f3⟩:=aJ hA.hh
 have hkl:=fI hrn (by decide)
 have hx1:XI (W0.setCell ⟨p,2,none⟩ (.int .i64 ((k:Int)+1))) p s L (k+1) d v:=by
  have h9:=hA.at (k':=k+1) (by omega)
  rwa [show((k+1:Nat):Int)=(k:Int)+1 by omega] at h9
 obtain⟨W1,hW1⟩:∃W1,W1=W0.setCell ⟨p,2,none⟩ (.int .i64 ((k:Int)+1)):=⟨_,rfl⟩
 rw[←hW1] at hx1
 have hc1:Ch W0 W1 p:=by rw[hW1];exact Ch.set _ _ _ _
 have hs1:W1.heap.size=w.heap.size+1:=by rw[hW1,←kg];simp[World.setCell]
 have HX:=Lib.hid h
 have HA:=Lib.hid (And.intro hA (And.intro hr0 hcW))
 have H1:=Lib.hid (And.intro hx1 hc1)
 have HT:=Lib.hid hat
 have HW0:=Lib.hid hW0
 have HW1:=Lib.hid hW1
 have hk0:(0:Int)≤(k:Int):=by omega
 have hsm:=h.small
 have t40:(pk L k == 40)=false:=by rw[hrn];rfl
 have t91:(pk L k == 91)=false:=by rw[hrn];rfl
 have LQ:(pk L k == 92)=true:=by rw[hrn];rfl
 clear h hA hat hW0 hW1 hr0 hcW hx1 hc1 hrn
 go_enter Tryz.func139,Tryz.ntmps139
 go_wp2_with (with_reducible rw[←HW0.out])
 refine(dx p k k d s L _ _ HA.out.1).mono ?_
 rintro x w1 ⟨rfl,hw⟩
 have hw:=hw.symm
 subst hw
 go_wp2_with fail
 refine(bf p k k d s L _ _ HA.out.1).mono ?_
 rintro x w1 ⟨rfl,hw⟩
 have hw:=hw.symm
 subst hw
 go_wp2_with fail
 rw[←HW1.out]
 refine(HT.out _ H1.out.1).mono ?_
 rintro x w2 ⟨rfl,hch⟩
 have HF:=Lib.hid ((HA.out.2.2.trans H1.out.2).trans hch)
 clear hch c0 c1 c2 c3 f0 f1 f2 f3
 go_wp2_with fail
 exact⟨rfl,rfl,HF.out⟩
open Go.RowKit De Wd Ru
theorem wm (x:Nat×It) (T:Its) (n k:Nat):aA (x::T) n (k+1)=aA T n k:=by unfold Wd.aA;simp
theorem Js:∀(N a:Nat) (l:List Int),l.length≤N →
 (∀k,a≤aA (all a l) (a+l.length) k∧aA (all a l) (a+l.length) k≤a+l.length)∧(∀k,k<(all a l).length→aA (all a l) (a+l.length) k+1≤aA (all a l) (a+l.length) (k+1)):=by
 intro N
 induction N with
 | zero =>
  intro a l h
  obtain rfl:l=[]:=List.length_eq_zero_iff.1 (by omega)
  rw[all_nil]
  exact⟨fun k=>by unfold Wd.aA;simp,fun k hk=>by simp at hk⟩
 | succ N ih =>
  intro a l h
  by_cases hl:l=[]
  · subst hl
    rw[all_nil]
    exact⟨fun k=>by unfold Wd.aA;simp,fun k hk=>by simp at hk⟩
  · obtain ⟨h1, _, h2⟩ := mU l
    have h3:=h2 hl
    obtain⟨m,hm⟩:∃m,m=(De.one l).n:=⟨_,rfl⟩
    rw[all_cons a l hl,←hm]
    rw[←hm] at h1 h3
    have hd:(l.drop m).length=l.length-m:=List.length_drop
    obtain⟨g1,g2⟩:=ih (a+m) (l.drop m) (by omega)
    rw[show a+m+(l.drop m).length=a+l.length by omega] at g1 g2
    refine⟨fun k=>?_,fun k hk=>?_⟩
    · cases k with
      | zero=>exact⟨Nat.le_refl _,Nat.le_add_right _ _⟩
      | succ k=>rw[wm];have:=g1 k;omega
    · cases k with
      | zero=>rw[wm];have:=g1 0;show a+1≤_;omega
      | succ k=>rw[wm,wm];exact g2 k (by simpa using hk)
theorem Jt {L:Its} {n k:Nat} (h:¬k<L.length):aA L n k=n:=by unfold Wd.aA;rw[List.getElem?_eq_none (by omega)]
theorem Si {l:List Int} {n z:Nat} (hn:n=l.length) (h:kE (all 0 l) n=.bad z):z≤n:=by
 have hp:=fun k=>((Js l.length 0 l (Nat.le_refl _)).1 k).2
 rw[Nat.zero_add,←hn] at hp
 unfold kE at h
 split at h
 · cases h;exact hp _
 · split at h <;> split at h
   all_goals first|(cases h;exact Nat.le_refl _)|cases h
theorem CG (s:ByteArray) (hs:s.size≤100000):EC s (all 0 (sb s)):=by
 obtain⟨g1,g2⟩:=Js (sb s).length 0 (sb s) (Nat.le_refl _)
 rw[Nat.zero_add,bg] at g1 g2
 refine⟨hs,fun k=>(g1 k).2,fun i j hij=>?_,g2,xE _ 0 _ (Nat.le_refl _) (oJ _)⟩
 induction j with
 | zero => obtain rfl : i = 0 := by omega
           exact Nat.le_refl _
 | succ j ih =>
  by_cases e:i=j+1
  · subst e;exact Nat.le_refl _
  · have h1 := ih (by omega)
    by_cases hj:j<(all 0 (sb s)).length
    · have:=g2 j hj;omega
    · rw [Jt hj] at h1
      rw[Jt (show ¬j+1<_ by omega)];exact h1
theorem LM (s:ByteArray) (hs:s.size≤100000):Px.Src (all 0 (sb s)) s.size (gP s):=by
 have h:=CG s hs
 refine⟨h.lim,h.mono,h.next,fun a b z hab hb hc=>?_⟩
 unfold gP at hc
 have hx:(s.extract a b).size=b-a:=by rw[ByteArray.size_extract];omega
 have:=Si (bg _).symm hc
 omega
def Ju (p:Nat) (s:ByteArray) (L:Its) (f:FuncId) (d k:Nat) (R:Px.Rs):Prop:=
 ∀v w,XI w p s L k d v→Calls Tryz.prog f #[.pointer (some ⟨p,0,none⟩)] w (RP R p s L d v w)
def FB (p:Nat) (s:ByteArray) (L:Its) (f:FuncId) (d k:Nat) (c:Int) (z:Nat):Prop:=
 ∀v w,XI w p s L k d v→Calls Tryz.prog f #[.pointer (some ⟨p,0,none⟩)] w fun x w'=>x=dL c z∧Ch w w' p
def Ue (k:Nat):Px.Rs→Prop
 | .ok _ k'=>k≤k'
 | .bad _ _=>True
def Fa (k:Nat):Px.Rs→Prop
 | .ok _ k'=>k<k'
 | .bad _ _=>True
theorem Ox {L:Its} {k j:Nat} (h:Px.wu L k j) (hk:k≤L.length):k≤j:=by
 cases h with
 | one _=>omega
 | num h s=>have:=Dv s;have:=Pm.mV h (by decide);omega
def ZP (p:Nat) (s:ByteArray) (L:Its) (d:Nat) (a:RE) (k:Nat):Px.Rs→Prop
 | .ok e k'=>k≤k'∧zw L (fun k b k'=>k≤k'∧CT p s L 69 d k b k') a k e k'
 | .bad c z=>Bb L (fun k b k'=>k≤k'∧CT p s L 69 d k b k') (fun k c z=>FB p s L 69 d k c z) a k c z
def ZQ (p:Nat) (s:ByteArray) (L:Its) (d:Nat) (a:RE) (k:Nat):Px.Rs→Prop
 | .ok e k'=>k≤k'∧zx L (fun k b k'=>k<k'∧CT p s L 111 d k b k') a k e k'
 | .bad c z=>Bc L (fun k b k'=>k<k'∧CT p s L 111 d k b k') (fun k c z=>FB p s L 111 d k c z) a k c z
theorem Uf {L:Its} {a e:RE} {k k':Nat} (h:vC L a k e k'):k≤k':=by
 induction h with
 | stop _=>exact Nat.le_refl _
 | go _ _ ih=>omega
theorem Oy {L:Its} {n:Nat} {cl:Nat→Nat→Cr} {a j k:Nat} (h:k≤j):Fa k (Px.nZ L n cl a j):=by
 unfold Px.nZ
 cases cl a (aA L n j) with
 | bad z=>trivial
 | ok S =>
  show Fa k (if pk L j=93 then _ else _)
  split
  · show k<j+1;omega
  · trivial
theorem Oz {L:Its} {n:Nat} {cl:Nat→Nat→Cr} {a j k:Nat} (h:k<j):Fa k (Px.kW L n cl a j):=by
 unfold Px.kW
 cases cl a (aA L n j) with
 | bad z=>trivial
 | ok S=>exact h
theorem Bf {p k d:Nat} {s:ByteArray} {L:Its} {R:Px.Rs} {arg:Value} (callee:FuncId) (v:Value) (w:World)
 (ok:∀e k2,(∀w,XI w p s L (k+1) d v→Calls Tryz.prog callee #[.pointer (some ⟨p,0,none⟩),arg] w fun x w'=>jv w w' e x∧Ch w w' p∧XI w' p s L k2 d v)→Calls Tryz.prog 139 #[.pointer (some ⟨p,0,none⟩)] w fun x w'=>jv w w' e x∧Ch w w' p∧XI w' p s L k2 d v)
 (bad:∀(c:Int) (z:Nat),(∀w,XI w p s L (k+1) d v→Calls Tryz.prog callee #[.pointer (some ⟨p,0,none⟩),arg] w fun x w'=>x=dL c z∧Ch w w' p)→Calls Tryz.prog 139 #[.pointer (some ⟨p,0,none⟩)] w fun x w'=>x=dL c z∧Ch w w' p)
 (hat:∀w,XI w p s L (k+1) d v→Calls Tryz.prog callee #[.pointer (some ⟨p,0,none⟩),arg] w (RP R p s L d v w)) :
 Calls Tryz.prog 139 #[.pointer (some ⟨p,0,none⟩)] w (RP R p s L d v w):=by
 match R,hat with
 | .ok e k2,hat=>exact ok e k2 hat
 | .bad c z,hat=>exact bad c z hat
def CF (p:Nat) (s:ByteArray) (L:Its):Prop:=∀k d v w,XI w p s L k d v→pk L k=46 →
 Calls Tryz.prog 139 #[.pointer (some ⟨p,0,none⟩)] w fun x w'=>jv w w' (.mk 2 (Ru.nt [(10,10)]) []) x∧Ch w w' p∧XI w' p s L (k+1) d v
open Px in
theorem xJ (p:Nat) (s:ByteArray) (L:Its) (hS:EC s L) (hX:Px.Src L s.size (gP s)) (hD:CF p s L):∀ {d k:Nat} {R:Px.Rs},Px.iG L s.size (gP s) d k R→Ju p s L 30 d k R:=by
 intro d k R h
 have hcb:∀a b,a≤b→b≤s.size→∀z,gP s a b=.bad z→a+z≤1000000:=fun a b h1 h2 z hz=>by have:=hX.bad a b z h1 h2 hz;have:=hS.small;omega
 suffices Ue k R∧Ju p s L 30 d k R from this.2
 refine iG.rec
  (motive_1:=fun d k R _=>Ue k R∧Ju p s L 30 d k R)
  (motive_2:=fun d a k R _=>ZP p s L d a k R)
  (motive_3:=fun d k R _=>Ue k R∧Ju p s L 69 d k R)
  (motive_4:=fun d a k R _=>ZQ p s L d a k R)
  (motive_5:=fun d k R _=>Fa k R∧Ju p s L 111 d k R)
  (motive_6:=fun d k R _=>Fa k R∧Ju p s L 139 d k R) ?_ ?_ ?_ ?_ ?_ ?_ ?_ ?_ ?_ ?_ ?_ ?_ ?_ ?_ ?_ ?_ ?_ ?_ ?_ ?_ ?_ h
 · intro d k k1 a R _ _ ih1 ih2
   match R,ih2 with
   | .ok e k2,ih2=>exact⟨Nat.le_trans ih1.1 ih2.1,fun v w hx=>EZ p k d k1 k2 s L v a e w hx _ (fun k b k' h=>h.1) ih1 ih2.2 (fun w k a k1 hp hx=>hp.2 v w hx)⟩
   | .bad c z,ih2=>exact⟨trivial,fun v w hx=>Ov p k d k1 z c s L v a w hx _ (fun k b k' h=>h.1) ih1 _ ih2 (fun w k a k1 hp hx=>hp.2 v w hx) (fun w k c z hp hx=>hp v w hx)⟩
 · intro d k z c _ ih
   exact⟨trivial,fun v w hx=>Dw p k d z c s L v w hx (fun w hx=>ih.2 v w hx)⟩
 · intro d k a h
   exact⟨Nat.le_refl _,.stop h⟩
 · intro d k k1 a b R h _ _ ih1 ih2
   match R,ih2 with
   | .ok e k2, ih2 => exact ⟨by have h1 : k + 1 ≤ k1 := ih1.1
                                have h2:=ih2.1
                                omega,.go h ih1 ih2.2⟩
   | .bad c z,ih2=>exact .go h ih1 ih2
 · intro d k z a c h _ ih
   exact .bad h ih.2
 · intro d k h
   exact⟨Nat.le_refl _,fun v w hx=>AY p k d s L v w hx hS.sc h⟩
 · intro d k k1 a R h _ _ ih1 ih2
   match R,ih2 with
   | .ok e k2,ih2=>exact⟨Nat.le_trans (Nat.le_of_lt ih1.1) ih2.1,fun v w hx=>Jq p k d k1 k2 s L v a e w hx hS.sc _ (fun k b k' h=>h.1) ih1 ih2.2 h (fun w k a k1 hp hx=>hp.2 v w hx)⟩
   | .bad c z,ih2=>exact⟨trivial,fun v w hx=>Sg p k d k1 z c s L v a w hx hS.sc _ (fun k b k' h=>h.1) ih1 _ ih2 h (fun w k a k1 hp hx=>hp.2 v w hx) (fun w k c z hp hx=>hp v w hx)⟩
 · intro d k z c h _ ih
   exact⟨trivial,fun v w hx=>Fb p k d z c s L v w hx hS.sc h (fun w hx=>ih.2 v w hx)⟩
 · intro d k a h
   exact⟨Nat.le_refl _,.stop h⟩
 · intro d k k1 a b R h _ _ ih1 ih2
   match R,ih2 with
   | .ok e k2,ih2=>exact⟨Nat.le_trans (Nat.le_of_lt ih1.1) ih2.1,.go h ih1 ih2.2⟩
   | .bad c z,ih2=>exact .go h ih1 ih2
 · intro d k z a c h _ ih
   exact .bad h ih.2
 · intro d k k1 k2 a e _ r ih
   exact⟨Nat.lt_of_lt_of_le ih.1 (Uf r),fun v w hx=>E5 p k d k1 k2 s L v a e w hx r (fun w hx=>ih.2 v w hx)⟩
 · intro d k z c _ ih
   exact⟨trivial,fun v w hx=>Fe p k d z c s L v w hx (fun w hx=>ih.2 v w hx)⟩
 · intro d k k1 e h hd _ h2 ih
   exact ⟨by have h1 : k + 1 ≤ k1 := ih.1
             show k<k1+1;omega,fun v w hx=>AZ p k d (k1+1) s L v e w hx h (fun w hx=>zy p (k+1) d _ k1 s L v e w hx hd h2 (fun w hx=>ih.2 v w hx))⟩
 · intro d k h hd
   exact⟨trivial,fun v w hx=>qJ p k d _ 7 s L v w hx h (fun w hx=>Et p (k+1) d _ s L v w hx hd)⟩
 · intro d k z c h hd _ ih
   exact⟨trivial,fun v w hx=>qJ p k d z c s L v w hx h (fun w hx=>IL p (k+1) d _ z c s L v w hx hd (fun w hx=>ih.2 v w hx))⟩
 · intro d k k1 e h hd _ h2 ih
   exact⟨trivial,fun v w hx=>qJ p k d _ 3 s L v w hx h (fun w hx=>xI p (k+1) d _ k1 s L v e w hx hd h2 (fun w hx=>ih.2 v w hx))⟩
 · intro d k j R h hsc hR
   subst hR
   have hkl:=fI h (by decide)
   have hkj:=zS hsc
   have h3:=hS.next k hkl
   have h4:=hS.mono (k+1) j hkj.1
   have h5:=hS.lim j
   have h6:=hS.small
   refine⟨Oy (by omega),fun v w hx=>Bf 155 v w (fun e k2 hat=>A8 p k d k2 s L v e w hx h hat (by have:=hS.lim k;omega)) (fun c z hat=>IJ p k d z c s L v w hx h hat (by have:=hS.lim k;omega)) (fun w hx=>?_)⟩
   exact E8 p (k+1) d (aA L s.size k+1) j s L v w hx hsc (by omega) h5 (by omega) (hcb _ _ (by omega) h5)
 · intro d k j R h hsc hR
   subst hR
   have hkl:=fI h (by decide)
   have hkj:=Ox hsc (by omega)
   have h4:=hS.mono k j (by omega)
   have h5:=hS.lim j
   have h6:=hS.small
   refine⟨Oz (by omega),fun v w hx=>Bf 156 v w (fun e k2 hat=>A9 p k d k2 s L v e w hx h hat) (fun c z hat=>IK p k d z c s L v w hx h hat) (fun w hx=>?_)⟩
   exact Eu p (k+1) d (aA L s.size k) j s L v w hx hsc h4 h5 (by omega) (hcb _ _ h4 h5)
 · intro d k h
   exact⟨Nat.lt_succ_self _,fun v w hx=>hD k d v w hx h⟩
 · intro d k r h ha
   subst h
   have h9:=ha.2
   simp[Pm.zA] at h9
   exact⟨Nat.lt_succ_self _,fun v w hx=>Ba p k d s L v w hx (by omega) (by omega) (by omega) (by omega) (by omega)⟩
end Go.Proofs.YtfkmajjgkdjncaaGreatDoor
