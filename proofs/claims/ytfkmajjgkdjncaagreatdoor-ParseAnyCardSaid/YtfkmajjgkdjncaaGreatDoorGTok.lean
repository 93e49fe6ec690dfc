import Derived.Test.YtfkmajjgkdjncaaGreatDoorGNames
set_option linter.unusedVariables false
set_option linter.unusedSimpArgs false
set_option maxHeartbeats 8000000
set_option maxRecDepth 100000
namespace Go.Proofs.YtfkmajjgkdjncaaGreatDoor
open Go.RowKit Ru
def nA (T:List TK) (i:Nat) (t:TK):Option Int:=
 if ¬(cK t.name=true∧ku T t.name=(i:Int)) then some 4 else if ¬(t.kind=0∨t.kind=1∨t.kind=2) then some 5
 else if ¬((0≤t.cls∧t.cls≤31)∧t.re.may=true) then some 6 else if (t.re.may && t.re.emp)=true then some 11 else none
theorem Po (T:List TK) (i:Nat) (t:TK) (tv rv:Value) (a:Int) (q:Nat) (w:World) (hT:iO w tv T) (iH:T.length≤1000) (p8:∃o n c,rv=.slice o n c) (ht:T[i]? = some t) (hns:t.name.size≤1000) (hf:t.re.Fit)
 (hq:w.heap[q]? = some (.cells #[.int .i64 a] 3 (0,0))) :
 Calls Tryz.prog 61 #[tQ tv rv q,.int .i64 i] w (bH (nA T i t) a w):=by
 have hT':=hT
 obtain⟨ot,ct,nm,kd,cl,rk,so,sn,sc,lo,ln,lc,rfl,hall⟩:=hT'.all
 obtain⟨o9,n9,c9,rfl⟩:=p8
 obtain⟨e1,e2,e3,e4,er,tb,tf,rfl,htb,g0,g1,g2,g3,g4,g5⟩:=hall i t ht
 rw[e1] at g0
 rw[e2] at g1
 rw[e3] at g2
 rw[e4] at g3
 obtain⟨xo,hxo⟩:∃d,d=so i:=⟨_,rfl⟩
 obtain⟨xn,hxn⟩:∃d,d=sn i:=⟨_,rfl⟩
 obtain⟨xc,hxc⟩:∃d,d=sc i:=⟨_,rfl⟩
 obtain⟨yo,Yj⟩:∃d,d=lo i:=⟨_,rfl⟩
 obtain⟨yn,hyn⟩:∃d,d=ln i:=⟨_,rfl⟩
 obtain⟨yc,Yk⟩:∃d,d=lc i:=⟨_,rfl⟩
 rw[←hxo,←hxn,←hxc] at g4 er
 rw[←Yj,←hyn,←Yk] at g5 er
 clear hall e1 e2 e3 e4 hxo hxn hxc Yj hyn Yk
 have hi:i<T.length:=(List.getElem?_eq_some_iff.1 ht).1
 have i1:(0:Int)≤(i:Int):=by omega
 have i2:(i:Int)<(T.length:Int):=by omega
 have i3:(i:Int)≤1000:=by omega
 obtain⟨s,kk,cc,re⟩:=t
 simp only at g0 g1 g2 g3 er hns hf
 obtain⟨J2,Pp⟩:∃d,d=re.kind:=⟨_,rfl⟩
 rw[←Pp] at g3
 have Yl:=Lib.hid Pp
 have HT:=Lib.hid hT
 have HQ:=Lib.hid hq
 have Ym:=Lib.hid er
 have HF:=Lib.hid hf
 have HI:=Lib.hid hi
 clear hT hT' hq ht er hf hi Pp
 go_enter Tryz.func61,Tryz.ntmps61
 go_wp2_with fail
 obtain⟨W,hW⟩:∃W,W=(w.alloc (.cells #[.slice (some ⟨tb,tf,none⟩) T.length ct,.slice o9 n9 c9,eY q] 119)).alloc (.cells #[.string s,.int .i64 kk,.int .i64 cc,.int .i64 J2,.slice xo xn xc,.slice yo yn yc] 54):=⟨_,rfl⟩
 have hbW:Below w.heap.size w W:=by rw[hW];exact ah (ah (Below.refl _ _) _) _
 have hB0:W.heap[w.heap.size]? = some (.cells #[.slice (some ⟨tb,tf,none⟩) T.length ct,.slice o9 n9 c9,eY q] 119 (0,0)):=by
  rw[hW];exact aB (ah (Below.refl _ _) _) (heap_alloc_new w _)
 have hB1:W.heap[w.heap.size+1]? = some (.cells #[.string s,.int .i64 kk,.int .i64 cc,.int .i64 J2,.slice xo xn xc,.slice yo yn yc] 54 (0,0)):=by
  rw[hW]
  have:=heap_alloc_new (w.alloc (.cells #[.slice (some ⟨tb,tf,none⟩) T.length ct,.slice o9 n9 c9,eY q] 119)) (.cells #[.string s,.int .i64 kk,.int .i64 cc,.int .i64 J2,.slice xo xn xc,.slice yo yn yc] 54)
  simpa using this
 unfold eY at hW
 rw[←hW]
 have BW:=Lib.hid hbW
 obtain⟨ι,K,hne,hkb,hks⟩:=nJ W
 have KB:=Lib.hid hkb
 have KS:=Lib.hid hks
 have kc : ∀ i, (K i).cell? ⟨w.heap.size, 0, none⟩ = some (.slice (some ⟨tb, tf, none⟩) T.length ct) ∧ (K i).cell? ⟨w.heap.size, 1, none⟩ = some (.slice o9 n9 c9) ∧ (K i).cell? ⟨w.heap.size, 2, none⟩ = some (.func (Fn.func 60) #[] #[.pointer (some ⟨q, 0, none⟩)]) := fun i => by
  have:=aB (hkb i) hB0
  simp[World.cell?,this]
 have kt : ∀ i, (K i).cell? ⟨w.heap.size + 1, 0, none⟩ = some (.string s) ∧ (K i).cell? ⟨w.heap.size + 1, 1, none⟩ = some (.int .i64 kk) ∧ (K i).cell? ⟨w.heap.size + 1, 2, none⟩ = some (.int .i64 cc) ∧ (K i).cell? ⟨w.heap.size + 1, 3, none⟩ = some (.int .i64 J2) ∧ (K i).cell? ⟨w.heap.size + 1, 4, none⟩ = some (.slice xo xn xc) ∧ (K i).cell? ⟨w.heap.size + 1, 5, none⟩ = some (.slice yo yn yc) := fun i => by
  have:=aB (hkb i) hB1
  simp[World.cell?,this]
 have k0:=fun i=>(kc i).1
 have k1:=fun i=>(kc i).2.1
 have k2:=fun i=>(kc i).2.2
 have k3:=fun i=>(kt i).1
 have k4:=fun i=>(kt i).2.1
 have k5:=fun i=>(kt i).2.2.1
 have k6:=fun i=>(kt i).2.2.2.1
 have k7:=fun i=>(kt i).2.2.2.2.1
 have k8:=fun i=>(kt i).2.2.2.2.2
 obtain⟨b1,hb1⟩:∃b,b=cK s:=⟨_,rfl⟩
 obtain⟨fi,hfi⟩:∃f,f=ku T s:=⟨_,rfl⟩
 obtain⟨b2,hb2⟩:∃b,(fi == (i:Int))=b:=⟨_,rfl⟩
 obtain⟨b3,hb3⟩:∃b,b=decide (0≤cc∧cc≤31):=⟨_,rfl⟩
 obtain⟨b4,hb4⟩:∃b,b=re.may:=⟨_,rfl⟩
 obtain⟨b5,hb5⟩:∃b,b=(re.may && re.emp):=⟨_,rfl⟩
 have hr1:b1=false→some 4=nA T i ⟨s,kk,cc,re⟩:=fun h=>by unfold nA;simp only;rw[if_pos];rw[←hb1,h];simp
 have hr2 : b2 = false → some 4 = nA T i ⟨s, kk, cc, re⟩ := fun h => by unfold nA; simp only; rw [if_pos]; rw [h] at hb2; rw [← hfi]; have : fi ≠ (i : Int) := by simpa using hb2
                                                                        exact fun k=>this k.2
 have hr3 : b1 = true → b2 = true → nA T i ⟨s, kk, cc, re⟩ = if ¬ (kk = 0 ∨ kk = 1 ∨ kk = 2) then some 5 else if ¬ (b3 = true ∧ b4 = true) then some 6 else if b5 = true then some 11 else none := fun h1 h2 => by
  rw[h2] at hb2
  have hfe:fi=(i:Int):=by simpa using hb2
  unfold nA;simp only
  rw[←hfi,←hb1,h1,←hb4,hfe,if_neg (by simp)]
  rw[hb4,←hb5]
  by_cases h3:0≤cc∧cc≤31
  · have : b3 = true := by rw [hb3]; simpa using h3
    simp[h3,this]
  · have : b3 = false := by rw [hb3]; simpa using h3
    simp[h3,this]
 have hcn:∀i,Calls Tryz.prog 96 #[.string s] (K i) fun e w''=>e=.returned (.bool b1)∧∃j,w''=K j:=fun i=>mY hkb hks (by rw[hb1];exact yD s (K i) hns)
 have hcf:∀i,Calls Tryz.prog 97 #[.agg #[.slice (some ⟨tb,tf,none⟩) T.length ct,.slice o9 n9 c9],.string s] (K i) fun e w''=>e=.returned (.int .i64 fi)∧∃j,w''=K j:=fun i=>mY hkb hks (by rw[hfi];exact yE T _ (.slice o9 n9 c9) s (K i) (HT.out.moved (ak hbW (hkb i))) iH ⟨_,_,_,rfl⟩)
 have hcc:∀i,Calls Tryz.prog 98 #[.int .i64 cc] (K i) fun e w''=>e=.returned (.bool b3)∧∃j,w''=K j:=fun i=>wQ (by rw[hb3];exact(BJ cc (K i)).mono fun e w' h=>⟨h.1,h.2.symm⟩)
 have hcm:∀i,Calls Tryz.prog 99 #[.agg #[.int .i64 J2,.slice xo xn xc,.slice yo yn yc]] (K i) fun e w''=>e=.returned (.bool b4)∧∃j,w''=K j:=fun i=>mY hkb hks (by rw[hb4,Yl.out];exact Eb re _ _ (K i) (Ym.out.moved (ak hbW (hkb i))) HF.out)
 have hce:∀i,Calls Tryz.prog 100 #[.agg #[.int .i64 J2,.slice xo xn xc,.slice yo yn yc]] (K i) fun e w''=>e=.returned (.bool b5)∧∃j,w''=K j:=fun i=>mY hkb hks (by rw[hb5,Yl.out];exact I7 re _ _ (K i) (Ym.out.moved (ak hbW (hkb i))) HF.out)
 have Yn:=Lib.hid hcn
 have Yo:=Lib.hid hcf
 have Yp:=Lib.hid hcc
 have HCM:=Lib.hid hcm
 have HCE:=Lib.hid hce
 have HR1:=Lib.hid hr1
 have HR2:=Lib.hid hr2
 have HR3:=Lib.hid hr3
 have kS:=hks _ (Below.refl W.heap.size W).drew
 clear hcn hcf hcc hcm hce hr1 hr2 hr3 hW hbW hB0 hB1 hkb hks kc kt hb1 hfi hb3 hb4 hb5
 cases b1 with
 | false =>
  refine dJ K 14 (by kernel_rfl) (by kernel_rfl) kS ?_
  simp only[List.take_succ_cons,List.take_zero,List.drop_succ_cons,List.drop_zero]
  repeat (go_big_quiet_step (first|exact Yn.out _|exact Yo.out _))
  refine wpQuiet_nil ?_
  rintro _ ⟨iw,rfl⟩
  have HB:=Lib.hid (ak BW.out (KB.out iw))
  have kN:=KS.out _ (KB.out iw).drew
  have HR:=Lib.hid (show some 4=nA T i ⟨s,kk,cc,re⟩ by exact HR1.out rfl)
  go_wp2_with fail
  refine(gH q 4 a _ (aB HB.out HQ.out)).mono ?_
  rintro e w3 ⟨rfl,rfl⟩
  go_wp2_with fail
  refine⟨rfl,?_⟩
  unfold bH
  rw[←HR.out]
  exact⟨rfl,HB.out⟩
 | true =>
  refine dJ K 14 (by kernel_rfl) (by kernel_rfl) kS ?_
  simp only[List.take_succ_cons,List.take_zero,List.drop_succ_cons,List.drop_zero]
  repeat (go_big_quiet_step (first|exact Yn.out _|exact Yo.out _))
  refine wpQuiet_nil ?_
  rintro _ ⟨iw,rfl⟩
  have HB:=Lib.hid (ak BW.out (KB.out iw))
  have kN:=KS.out _ (KB.out iw).drew
  cases b2 with
  | false =>
   have HR:=Lib.hid (show some 4=nA T i ⟨s,kk,cc,re⟩ by exact HR2.out rfl)
   go_wp2_with fail
   refine(gH q 4 a _ (aB HB.out HQ.out)).mono ?_
   rintro e w3 ⟨rfl,rfl⟩
   go_wp2_with fail
   refine⟨rfl,?_⟩
   unfold bH
   rw[←HR.out]
   exact⟨rfl,HB.out⟩
  | true =>
   have KZ:=Lib.hid (HR3.out rfl rfl)
   clear hb2 HR3
   go_wp2_with fail
   refine(jL q 4 _).mono ?_
   rintro e w3 ⟨rfl,rfl⟩
   by_cases hk:kk=0∨kk=1∨kk=2
   · have hkd : (kk == 0) = true ∨ ((kk == 0) = false ∧ (kk == 1) = true) ∨ ((kk == 0) = false ∧ (kk == 1) = false ∧ (kk == 2) = true) := by
      rcases hk with h|h|h<;>subst h<;>simp
     have HR4:=Lib.hid (KZ.out.trans (if_neg (by simp only[Decidable.not_not];exact hk)))
     clear hk KZ
     rcases hkd with d0|⟨d0,d1⟩|⟨d0,d1,d2⟩
     all_goals
      go_wp2_with fail
      refine(jL q 5 _).mono ?_
      rintro e w3 ⟨rfl,rfl⟩
      go_wp2_with fail
      cases b3 with
      | false =>
       refine dJ K 10 (by kernel_rfl) (by kernel_rfl) kN ?_
       simp only[List.take_succ_cons,List.take_zero,List.drop_succ_cons,List.drop_zero]
       repeat (go_big_quiet_step (first|exact Yp.out _|exact HCM.out _))
       refine wpQuiet_nil ?_
       rintro _ ⟨iw,rfl⟩
       have HB:=Lib.hid (ak BW.out (KB.out iw))
       have kN:=KS.out _ (KB.out iw).drew
       have HR:=Lib.hid (show some 6=nA T i ⟨s,kk,cc,re⟩ by rw[HR4.out];simp)
       go_wp2_with fail
       refine(gH q 6 a _ (aB HB.out HQ.out)).mono ?_
       rintro e w3 ⟨rfl,rfl⟩
       go_wp2_with fail
       refine⟨rfl,?_⟩
       unfold bH
       rw[←HR.out]
       exact⟨rfl,HB.out⟩
      | true =>
       refine dJ K 10 (by kernel_rfl) (by kernel_rfl) kN ?_
       simp only[List.take_succ_cons,List.take_zero,List.drop_succ_cons,List.drop_zero]
       repeat (go_big_quiet_step (first|exact Yp.out _|exact HCM.out _))
       refine wpQuiet_nil ?_
       rintro _ ⟨iw,rfl⟩
       have HB:=Lib.hid (ak BW.out (KB.out iw))
       have kN:=KS.out _ (KB.out iw).drew
       cases b4 with
       | false =>
        have HR:=Lib.hid (show some 6=nA T i ⟨s,kk,cc,re⟩ by rw[HR4.out];simp)
        go_wp2_with fail
        refine(gH q 6 a _ (aB HB.out HQ.out)).mono ?_
        rintro e w3 ⟨rfl,rfl⟩
        go_wp2_with fail
        refine⟨rfl,?_⟩
        unfold bH
        rw[←HR.out]
        exact⟨rfl,HB.out⟩
       | true =>
        go_wp2_with fail
        refine(jL q 6 _).mono ?_
        rintro e w3 ⟨rfl,rfl⟩
        go_wp2_with fail
        refine dJ K 6 (by kernel_rfl) (by kernel_rfl) kN ?_
        simp only[List.take_succ_cons,List.take_zero,List.drop_succ_cons,List.drop_zero]
        repeat (go_big_quiet_step (exact HCE.out _))
        refine wpQuiet_nil ?_
        rintro _ ⟨iw,rfl⟩
        have HB:=Lib.hid (ak BW.out (KB.out iw))
        have kN:=KS.out _ (KB.out iw).drew
        cases b5 with
        | true =>
         have HR:=Lib.hid (show some 11=nA T i ⟨s,kk,cc,re⟩ by rw[HR4.out];simp)
         go_wp2_with fail
         refine(gH q 11 a _ (aB HB.out HQ.out)).mono ?_
         rintro e w3 ⟨rfl,rfl⟩
         go_wp2_with fail
         refine⟨rfl,?_⟩
         unfold bH
         rw[←HR.out]
         exact⟨rfl,HB.out⟩
        | false =>
         go_wp2_with fail
         refine(jL q 11 _).mono ?_
         rintro e w3 ⟨rfl,rfl⟩
         go_wp2_with fail
         refine bodyPost_end (results_none rfl _ _ _) rfl ?_
         unfold bH
         rw[HR4.out]
         exact⟨rfl,HB.out⟩
   · have d0 : (kk == 0) = false := by simp; intro h; exact hk (.inl h)
     have d1:(kk == 1)=false:=by simp;intro h;exact hk (.inr (.inl h))
     have d2:(kk == 2)=false:=by simp;intro h;exact hk (.inr (.inr h))
     have HR4:=Lib.hid (KZ.out.trans (if_pos hk))
     clear hk KZ
     have HR:=Lib.hid (show some 5=nA T i ⟨s,kk,cc,re⟩ by exact HR4.out.symm)
     go_wp2_with fail
     refine(gH q 5 a _ (aB HB.out HQ.out)).mono ?_
     rintro e w3 ⟨rfl,rfl⟩
     go_wp2_with fail
     refine⟨rfl,?_⟩
     unfold bH
     rw[←HR.out]
     exact⟨rfl,HB.out⟩
end Go.Proofs.YtfkmajjgkdjncaaGreatDoor
