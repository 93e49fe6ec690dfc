import Derived.Test.YtfkmajjgkdjncaaGreatDoorClsFull
import Derived.Test.YtfkmajjgkdjncaaGreatDoorCls
set_option linter.unusedVariables false
set_option linter.unusedSimpArgs false
set_option maxHeartbeats 8000000
set_option maxRecDepth 1000000
namespace Go.Proofs.YtfkmajjgkdjncaaGreatDoor
open Go.RowKit De Wd
namespace Wd
def kV (L:Its):Nat→List Ru.Pc→Nat→Except Nat (List Ru.Pc)
 | 0,_,_=>.error 0
 | f + 1, acc, k => if acc ≠ [] ∧ L.length ≤ k then .ok acc else match kU L k with
  | .error j=>.error j
  | .ok (q,k')=>kV L f (acc++[q]) k'
def kE (L:Its) (n:Nat):Cr:=
 match kV L (L.length+2) [] (if pk L 0=94 then 1 else 0) with
 | .error j=>.bad (aA L n j)
 | .ok acc=>if (if pk L 0=94 then Ru.nt acc else Ru.nE acc)=[] then .bad n else .ok (if pk L 0=94 then Ru.nt acc else Ru.nE acc)
theorem DT {L:Its} {f k:Nat} {acc:List Ru.Pc} (ha:acc≠[]) (hk:L.length≤k):kV L (f+1) acc k=.ok acc:=by
 simp only[kV];rw[if_pos ⟨ha,hk⟩]
theorem OL {L:Its} {f k j:Nat} {acc:List Ru.Pc} (ha:¬(acc≠[]∧L.length≤k)) (h:kU L k=.error j):kV L (f+1) acc k=.error j:=by
 simp only[kV];rw[if_neg ha,h]
theorem JF {L:Its} {f k k':Nat} {acc:List Ru.Pc} {q:Ru.Pc} (ha:¬(acc≠[]∧L.length≤k)) (h:kU L k=.ok (q,k')):kV L (f+1) acc k=kV L f (acc++[q]) k':=by
 simp only[kV];rw[if_neg ha,h]
theorem y8 {L:Its} (hpl:Sc L) {k k':Nat} {q:Ru.Pc} (h:kU L k=.ok (q,k')):k<k'∧k<L.length∧q.1≤q.2∧Ru.fM q.1=true∧Ru.fM q.2=true:=by
 have h1:=UE hpl h
 refine⟨h1.1,h1.2.1,h1.2.2.2.1,?_,?_⟩
 · have:=h1.2.2.2.2.1;rw[Ru.jZ];unfold jr at this;omega
 · have:=h1.2.2.2.2.2;rw[Ru.jZ];unfold jr at this;omega
end Wd
structure mq (w wr:World) (p:Nat) (L:Its) (k0 n:Nat) (v u:Value) (acc:List Ru.Pc) (f k:Nat):Prop where
 hold:dR w wr (.slice none 0 0)
 ci:CI wr p L k n v
 lo:w.heap.size+1+1<p
 own:wr.ownsRow (p+1) 79 2 u acc.length (flatK .i32 acc)
 len:acc.length≤k
 ok:Ru.FN acc
 eq:kV L (L.length+2) [] k0=kV L f acc k
 fuel:L.length-k<f
def kY (L:Its) (n:Nat) (w:World) (e:Ending) (w':World):Prop:=
 match kE L n with
 | .bad j=>e=.returned (.tuple #[.slice none 0 0,.int .i64 3,.int .i64 j])∧Below w.heap.size w w'
 | .ok S=>∃u,e=.returned (.tuple #[u,.int .i64 0,.int .i64 0])∧w'.ownsRow w.heap.size 79 2 u S.length (flatK .i32 S)∧Below w.heap.size w w'
theorem sH {L:Its} {n j:Nat} {w w':World} {e:Ending} (h:kE L n=.bad j) (he:e=.returned (.tuple #[.slice none 0 0,.int .i64 3,.int .i64 j])) (hb:Below w.heap.size w w'):kY L n w e w':=by
 unfold kY;rw[h];exact⟨he,hb⟩
theorem FP {L:Its} {n j:Nat} {b:Bool} (hb:decide (pk L 0=94)=b) (h:kV L (L.length+2) [] (if b=true then 1 else 0)=.error j):kE L n=.bad (aA L n j):=by
 subst hb;unfold kE;simp only[decide_eq_true_eq] at h;rw[h]
theorem wH {L:Its} {n:Nat} {b:Bool} {acc S:List Ru.Pc} (hb:decide (pk L 0=94)=b) (h:kV L (L.length+2) [] (if b=true then 1 else 0)=.ok acc) (hS:S=if b=true then Ru.nt acc else Ru.nE acc):kE L n=if S=[] then .bad n else .ok S:=by
 subst hb;subst hS;unfold kE;simp only[decide_eq_true_eq] at h ⊢;rw[h]
theorem mq.no {w wr:World} {p:Nat} {L:Its} {k0 n:Nat} {v u:Value} {acc:List Ru.Pc} {f k j:Nat} (h:mq w wr p L k0 n v u acc f k) (ha:¬(acc≠[]∧L.length≤k)) (he:kU L k=.error j):kV L (L.length+2) [] k0=.error j:=by
 obtain⟨f,rfl⟩:∃g,f=g+1:=⟨f-1,by have:=h.fuel;omega⟩
 rw[h.eq,OL ha he]
theorem mq.stop {w wr:World} {p:Nat} {L:Its} {k0 n:Nat} {v u:Value} {acc:List Ru.Pc} {f k:Nat} (h:mq w wr p L k0 n v u acc f k) (ha:acc≠[]) (hk:L.length≤k):kV L (L.length+2) [] k0=.ok acc:=by
 obtain⟨f,rfl⟩:∃g,f=g+1:=⟨f-1,by have:=h.fuel;omega⟩
 rw[h.eq,DT ha hk]
theorem mq.next {w wr w2:World} {p:Nat} {L:Its} {k0 n:Nat} {v u u2:Value} {acc:List Ru.Pc} {f k k':Nat} {q:Ru.Pc} (hpl:Sc L) (h:mq w wr p L k0 n v u acc f k) (ha:¬(acc≠[]∧L.length≤k)) (he:kU L k=.ok (q,k'))
 (hh:dR w w2 (.slice none 0 0)) (hci:CI w2 p L k' n v) (hown:w2.ownsRow (p+1) 79 2 u2 (acc.length+1) (flatK .i32 acc++[.int .i32 q.1,.int .i32 q.2])):∃f',mq w w2 p L k0 n v u2 (acc++[q]) f' k':=by
 obtain⟨f,rfl⟩:∃g,f=g+1:=⟨f-1,by have:=h.fuel;omega⟩
 have ho:=y8 hpl he
 refine⟨f,hh,hci,h.lo,?_,?_,?_,?_,?_⟩
 · rw[fH,List.length_append];exact hown
 · have:=h.len;simp;omega
 · intro x hx
   rcases List.mem_append.1 hx with hx|hx
   · exact h.ok x hx
   · simp at hx;subst hx;exact ho.2.2
 · rw[h.eq,JF ha he]
 · have:=h.fuel;omega
theorem KO (s:ByteArray) (w:World) (hs:s.size≤100000) (hpl:Sc (all 0 (sb s))) (hb:decide (pk (all 0 (sb s)) 0=94)=true):Calls Tryz.prog 184 #[.string s] w (kY (all 0 (sb s)) s.size w):=by
 have ng:∀(fn:Fn) (first cap:Array Value) (w:World),(Instr.makeFunc fn first cap).run Tryz.prog w=.ok (.func fn first cap) w:=fun _ _ _ _=>rfl
 have pz:=fun w=>Lib.run_convert_string_bytes (P:=Tryz.prog) w 9 84 5 s Tryz.underlying9 Tryz.underlying84 Tryz.underlying5
 obtain⟨ii,hi,hz0,hz1,hz2⟩:=mD
 obtain⟨W3,hW3⟩:∃W3,W3=(((w.alloc (.cells #[.slice none 0 0] 32)).alloc (.cells #[.int .i64 0] 3)).alloc (.cells #[.int .i64 0] 3)):=⟨_,rfl⟩
 obtain⟨g0,g1,g2,g3,g4⟩:=lD w _ _ _ W3 hW3
 have hcr:=sw W3 s (by omega)
 rw[g3] at hcr
 have hall:=sD (sb s) (.slice (some ⟨w.heap.size+1+1+1,0,none⟩) s.size (grownCap W3 s.size 0 5)) (Lib.bytesWorld W3 5 s) hcr (oJ s) (by rw[bg];omega)
 clear hcr
 have hlen:=ql 0 (sb s)
 rw[bg] at hlen
 obtain⟨L,hL⟩:∃L,L=all 0 (sb s):=⟨_,rfl⟩
 rw[←hL] at hall hlen hpl hb ⊢
 have HA:=Lib.hid hall
 have nk:=Lib.hid hpl
 have HB:=Lib.hid hb
 have HG:=Lib.hid (And.intro hW3 (And.intro g0 (And.intro g1 (And.intro g2 (And.intro g3 g4)))))
 clear hW3 g0 g1 g2 g3 g4 hall hpl hb hL
 go_enter_defers Tryz.func184,Tryz.ntmps184
 go_wp2_with fail
 obtain⟨hW3,g0,g1,g2,g3,g4⟩:=HG.out
 rw[←hW3]
 refine HA.out.mono ?_
 rintro e w4 ⟨uv,rfl,bN,hb4⟩
 have hbW:Below W3.heap.size W3 w4:=ak (lI W3 _ s) hb4
 have bQ:dR w w4 (.slice none 0 0):=dR.below ⟨g0,g1,g2,g4⟩ (by omega) hbW
 have lF:=hbW.size
 obtain⟨p,hp⟩:∃p,p=w4.heap.size:=⟨_,rfl⟩
 obtain⟨ou,cu,rfl⟩:=au bN
 have hci:CI (w4.alloc (.cells #[.slice ou L.length cu,.int .i64 ((0:Nat):Int),.int .i64 s.size] 235)) p L 0 s.size (.slice ou L.length cu):=by
  refine⟨by rw[hp];exact heap_alloc_new _ _,(Row.owned bN).below (ah (Below.refl _ _) _),?_,Nat.zero_le _,by omega⟩
  intro b off cap e
  simp only[Value.slice.injEq,true_and] at e
  obtain⟨rfl,rfl⟩:=e
  have:=(bN.lt b rfl).2
  omega
 have dM:dR w (w4.alloc (.cells #[.slice ou L.length cu,.int .i64 ((0:Nat):Int),.int .i64 s.size] 235)) (.slice none 0 0):=bQ.below (by omega) (ah (Below.refl _ _) _)
 obtain⟨W5,bT⟩:∃W5,W5=w4.alloc (.cells #[.slice ou L.length cu,.int .i64 ((0:Nat):Int),.int .i64 s.size] 235):=⟨_,rfl⟩
 rw[←bT] at hci dM
 have gu:w.heap.size+1+1<p:=by omega
 have hps:p<W5.heap.size:=hci.lt
 have hlow : ∀ b off, ou = some ⟨b, off, none⟩ → b < p + 1 ∧ b ≠ w.heap.size := fun b off e => by
  subst e
  have h1:=(bN.lt b rfl).2
  have h2:=(bN.lt b rfl).1
  rw[Lib.bytesWorld_size] at h2
  omega
 have og:=Lib.hid hlow
 clear hlow
 have H5:=Lib.hid (And.intro hci (And.intro dM (And.intro bT hp)))
 clear hci dM bN hb4 hbW bQ g0 g1 g2 g3 g4 hW3 pz HG hp lF bT
 go_wp2_with fail
 rw[←H5.out.2.2.2]
 have bT:=H5.out.2.2.1
 simp only[Int.natCast_zero,Int.ofNat_zero] at bT
 rw[←bT]
 clear bT
 refine(l8 p 0 s.size L _ _ H5.out.1).mono ?_
 rintro e w6 ⟨rfl,q,rfl⟩
 obtain⟨r0,hr0⟩:∃r0,r0=pk L 0:=⟨_,rfl⟩
 rw[←hr0]
 have Z8:(r0 == 94)=true:=by rw[hr0];exact HB.out
 have wZ:=Lib.hid hr0
 clear hr0
 have hL1:1≤L.length:=by
  rcases Nat.eq_zero_or_pos L.length with h|h
  · have:=HB.out;rw[pq (by omega)] at this;exact absurd this (by decide)
  · omega
 have Ah:=(H5.out.1.drewN q).at (k':=1) hL1
 obtain⟨⟨d0,d1,d2⟩,g0,g1,g2⟩:=gD (H5.out.1.drewN q).hh
 have UK:Ch W5 ((W5.drewN q).setCell ⟨p,1,none⟩ (.int .i64 ((1:Nat):Int))) p:=(Ch.drewN p q).trans (Ch.set _ _ _ _)
 have dZ:=H5.out.2.1.ch (by omega) gu UK
 go_wp2_with fail
 clear d0 d1 d2 g0 g1 g2
 obtain⟨W6,bA⟩:∃W6,W6=(W5.drewN q).setCell ⟨p,1,none⟩ (.int .i64 ((1:Nat):Int)):=⟨_,rfl⟩
 rw[←bA] at Ah dZ
 have UL:W6=(W5.drewN q).setCell ⟨p,1,none⟩ (.int .i64 1):=bA
 rw[←UL]
 clear bA UL UK
 have hat:mq w W6 p L 1 s.size (.slice ou L.length cu) (.slice none 0 0) [] (L.length+2) 1:=
  ⟨dZ,Ah,gu,World.ownsRow_nil _ _ _ _,Nat.zero_le _,fun x hx=>by simp at hx,rfl,by omega⟩
 have HAT:=Lib.hid hat
 clear hat dZ Ah
 go_loopw [7] (fun u wr=>∃(acc:List Ru.Pc) (f k:Nat),lenOf u=acc.length∧mq w wr p L 1 s.size (.slice ou L.length cu) u acc f k) (fun u _=>L.length+1-lenOf u)
 case atStart=>exact⟨[],_,_,rfl,HAT.out⟩
 case round=>
  obtain⟨acc,f,k,UM,hat⟩:=hrel
  obtain⟨wo,rfl⟩:∃wo:World,wo=wr:=⟨_,rfl⟩
  have hkl:=hat.ci.le
  have hal:=hat.len
  obtain⟨o7,c7,rfl⟩:=au hat.own
  obtain⟨⟨d0,d1,d2⟩,g0,g1,g2⟩:=gD hat.ci.hh
  have HT:=Lib.hid hat
  clear hat HAT UM
  by_cases hgo:acc≠[]∧L.length≤k
  · have hkn : k = L.length := by omega
    have hac:(acc.length == 0)=false:=beq_eq_false_iff_ne.2 (by have:=List.length_pos_iff.2 hgo.1;omega)
    have wI:((acc.length:Int) == 0)=false:=beq_eq_false_iff_ne.2 (by have:=List.length_pos_iff.2 hgo.1;omega)
    have hkk:decide ((k:Int)<(L.length:Int))=false:=by simp;omega
    have xY:decide (k<L.length)=false:=by simp;omega
    have Y7:L.length≤k:=hgo.2
    clear hkn
    have hels:=HT.out.stop hgo.1 hgo.2
    have HE:=Lib.hid hels
    have UN:=Lib.hid hgo.1
    clear hels hgo
    go_wp2_with fail
    go_quiet (fail)
    have dX:=HT.out.ci.drewN nq
    have bK:=HT.out.hold.ch (by have:=HT.out.lo;have:=HT.out.ci.lt;omega) gu (Ch.drewN p nq)
    have hown1:=dn HT.out.own nq
    generalize hwq:wo.drewN nq=wq at dX bK hown1 ⊢
    have H1:=Lib.hid (And.intro dX (And.intro bK hown1))
    clear hwq dX bK hown1 d0 d1 d2 g0 g1 g2
    go_wp2_with fail
    refine(zG acc _ _ _ H1.out.2.2 (by omega) HT.out.ok).mono ?_
    rintro e w8 ⟨u8,rfl,fZ,Bu⟩
    have gF:Below (p+1) wq w8:=Bu _ (by have:=H1.out.1.lt;omega) (fun j hj=>(H1.out.2.2.lt j hj).1)
    have aZ:=H1.out.2.1.low (q:=p+1) (by omega) gF
    have jB:=H1.out.1.low (fun j hj=>gF.block j hj) gF.size (fun b off e=>(og.out b off e).1)
    have hwq:w.heap.size<wq.heap.size:=by have:=H1.out.1.lt;omega
    rw[Ru.vN] at fZ
    have tH:w8.ownsRow wq.heap.size 79 2 u8 (Ru.aT acc).length (flatK .i32 (Ru.aY (Ru.aT acc))):=fZ
    obtain⟨o8,c8,rfl⟩:=au tH
    have FQ:=jB.lt
    have iK:w.heap.size+1+1<w8.heap.size:=by omega
    obtain⟨d0,g0⟩:=aj aZ.h0
    obtain⟨d1,g1⟩:=aj aZ.h1
    obtain⟨d2,g2⟩:=aj aZ.h2
    have Z9:(Ru.aT acc).length≤100000:=by have:=Ru.sM acc;omega
    obtain⟨X,hX⟩:∃X,X=w8.setCell ⟨w.heap.size,0,none⟩ (.slice o8 (Ru.aT acc).length c8):=⟨_,rfl⟩
    have HX:Hid (dR w X (.slice o8 (Ru.aT acc).length c8)∧CI X p L k s.size (.slice ou L.length cu)∧X.ownsRow wq.heap.size 79 2 (.slice o8 (Ru.aT acc).length c8) (Ru.aT acc).length (flatK .i32 (Ru.aY (Ru.aT acc)))∧w.heap.size+1+1<X.heap.size):=Lib.hid (by
     rw[hX]
     exact⟨aZ.set _,jB.FR (by omega) (fun b off e=>(og.out b off e).2),aX tH hwq,by simpa [World.setCell] using iK⟩)
    have QM:=Lib.hid hX
    have HWQ:=Lib.hid hwq
    clear hX fZ tH aZ jB Bu gF
    go_wp2_with fail
    rw[←QM.out]
    refine(OM (Ru.aT acc) _ X (Row.owned HX.out.2.2.1) (by omega) (Ru.SK acc)).mono ?_
    rintro e QN ⟨u10,rfl,FT,Ai⟩
    obtain⟨JG,c10,rfl⟩:=au FT
    have Y8:w.heap.size+1+1<QN.heap.size:=by have:=HX.out.2.2.2;have:=Ai.size;omega
    have mE:=HX.out.1.below HX.out.2.2.2 Ai
    have QO:=HX.out.2.1.moved Ai
    have hxw:w.heap.size<X.heap.size:=by have:=HX.out.2.2.2;omega
    clear d0 d1 d2 g0 g1 g2
    obtain⟨d0,g0⟩:=aj mE.h0
    obtain⟨d1,g1⟩:=aj mE.h1
    obtain⟨d2,g2⟩:=aj mE.h2
    obtain⟨Y,hY⟩:∃Y,Y=QN.setCell ⟨w.heap.size,0,none⟩ (.slice JG (Ru.eP 0 (Ru.aT acc)).length c10):=⟨_,rfl⟩
    have HY:Hid (dR w Y (.slice JG (Ru.eP 0 (Ru.aT acc)).length c10)∧CI Y p L k s.size (.slice ou L.length cu)∧Y.ownsRow X.heap.size 79 2 (.slice JG (Ru.eP 0 (Ru.aT acc)).length c10) (Ru.eP 0 (Ru.aT acc)).length (flatK .i32 (Ru.aY (Ru.eP 0 (Ru.aT acc))))∧w.heap.size+1+1<Y.heap.size):=Lib.hid (by
     rw[hY]
     exact⟨mE.set _,QO.FR (by omega) (fun b off e=>(og.out b off e).2),aX FT hxw,by simpa [World.setCell] using Y8⟩)
    have X8:=Lib.hid hY
    have HXw:=Lib.hid hxw
    clear hY FT mE QO Ai hxw
    have wJ:aA L s.size k=s.size:=by unfold aA;rw[List.getElem?_eq_none (by omega)]
    have OO:=Lib.hid wJ
    clear wJ
    by_cases hS:(Ru.eP 0 (Ru.aT acc)).length=0
    · have tz : ((((Ru.eP 0 (Ru.aT acc)).length : Nat) : Int) == 0) = true := beq_iff_eq.2 (by omega)
      have UO:((Ru.eP 0 (Ru.aT acc)).length == 0)=true:=beq_iff_eq.2 hS
      have hcl:kE L s.size=.bad s.size:=by
       rw[wH HB.out HE.out (S:=Ru.nt acc) rfl,if_pos]
       exact List.eq_nil_of_length_eq_zero (by rw[Ru.FU];exact hS)
      have ni:=Lib.hid hcl
      clear hcl hS
      go_wp2_with fail
      rw[←X8.out]
      refine(oF p k s.size L _ _ HY.out.2.1).mono ?_
      rintro e w12 ⟨rfl,q2,rfl⟩
      go_wp2
      have hcl:=ni.out
      have wJ:=OO.out
      have hhz:=HY.out.1.below HY.out.2.2.2 (below_drewN (Below.refl _ _) q2)
      refine leaves_cons (f:=195) (args:=#[.pointer (some ⟨w.heap.size,0,none⟩),.pointer (some ⟨w.heap.size+1,0,none⟩),.pointer (some ⟨w.heap.size+1+1,0,none⟩)]) (by simp) (by simp[go_sem]) ?_
      refine(kJ _ _ _ 3 ((aA L s.size k:Nat):Int) _ _ _ _ hhz.h0 hhz.h1 hhz.h2 (by omega) (by omega) (by omega)).mono ?_
      rintro e u' w7 ⟨rfl,rfl,K0,K1,K2,eU⟩
      have jS:Below w.heap.size w w7:=hhz.aV.trans (eU _ (Nat.le_refl _) (by omega) (by omega) hhz.aV.size)
      obtain⟨c0,z0⟩:=aj K0
      obtain⟨c1,z1⟩:=aj K1
      obtain⟨c2,z2⟩:=aj K2
      simp[Leaves,settle,results,Tryz.results184,go_sem,c0,c1,c2]
      exact sH hcl (by rw[wJ]) jS
    · have tz : ((((Ru.eP 0 (Ru.aT acc)).length : Nat) : Int) == 0) = false := beq_eq_false_iff_ne.2 (by omega)
      have UO:((Ru.eP 0 (Ru.aT acc)).length == 0)=false:=beq_eq_false_iff_ne.2 hS
      have hcl:kE L s.size=.ok (Ru.nt acc):=by
       rw[wH HB.out HE.out (S:=Ru.nt acc) rfl,if_neg]
       intro e
       exact hS (by rw[←Ru.FU,e];rfl)
      have ni:=Lib.hid hcl
      clear hcl hS
      go_wp2
      rw[←X8.out]
      obtain⟨W8,dG⟩:∃W8,W8=((Y.setCell ⟨w.heap.size,0,none⟩ (.slice JG (Ru.eP 0 (Ru.aT acc)).length c10)).setCell ⟨w.heap.size+1,0,none⟩ (.int .i64 0)).setCell ⟨w.heap.size+1+1,0,none⟩ (.int .i64 0):=⟨_,rfl⟩
      rw[←dG]
      have aZ:dR w W8 (.slice JG (Ru.eP 0 (Ru.aT acc)).length c10):=by rw[dG];exact HY.out.1.again
      have hbw:w.heap.size+1+1<X.heap.size:=by have:=HX.out.2.2.2;omega
      have fZ:W8.ownsRow X.heap.size 79 2 (.slice JG (Ru.eP 0 (Ru.aT acc)).length c10) (Ru.eP 0 (Ru.aT acc)).length (flatK .i32 (Ru.aY (Ru.eP 0 (Ru.aT acc)))):=by
       rw[dG]
       exact aX (aX (aX HY.out.2.2.1 (by omega)) (by omega)) (by omega)
      have iK:w.heap.size+1+1<W8.heap.size:=by rw[dG];simpa [World.setCell] using HY.out.2.2.2
      clear dG
      refine leaves_cons (f:=195) (args:=#[.pointer (some ⟨w.heap.size,0,none⟩),.pointer (some ⟨w.heap.size+1,0,none⟩),.pointer (some ⟨w.heap.size+1+1,0,none⟩)]) (by simp) (by simp[go_sem]) ?_
      refine(zH _ _ _ _).mono ?_
      rintro e u' w'' ⟨rfl,rfl,rfl⟩
      have gB:=aZ.below iK (ah (Below.refl _ _) (.cells #[.int .i64 0,.int .i64 0] 103))
      have aI:=bS fZ (ah (Below.refl _ _) (.cells #[.int .i64 0,.int .i64 0] 103))
      obtain⟨W9,bP⟩:∃W9,W9=W8.alloc (.cells #[.int .i64 0,.int .i64 0] 103):=⟨_,rfl⟩
      rw[←bP] at gB aI ⊢
      clear bP d0 d1 d2 g0 g1 g2
      obtain⟨c0,z0⟩:=aj gB.h0
      obtain⟨c1,z1⟩:=aj gB.h1
      obtain⟨c2,z2⟩:=aj gB.h2
      simp[Leaves,settle,results,Tryz.results184,go_sem,c0,c1,c2]
      unfold kY
      rw[ni.out]
      exact⟨_,rfl,by rw[Ru.FU];exact ji aI (by omega),gB.aV⟩
  · cases hel : kU L k with
    | error j =>
     have hels:=HT.out.no hgo hel
     have hcl:=FP (n:=s.size) HB.out hels
     have HC:=Lib.hid (And.intro hel hcl)
     clear hels hcl hel
     have hgd:acc=[]∨k<L.length:=by
      rcases Nat.lt_or_ge k L.length with h|h
      · exact .inr h
      · exact .inl (Classical.byContradiction fun hne=>hgo ⟨hne,h⟩)
     clear hgo
     rcases(show acc.length=0∨(0<acc.length∧k<L.length) from by
      rcases hgd with h|h
      · exact .inl (by rw[h];rfl)
      · rcases Nat.eq_zero_or_pos acc.length with h2 | h2
        · exact .inl h2
        · exact .inr ⟨h2,h⟩) with hz|⟨hz,OP⟩
     all_goals clear hgd
     · have hac : ((acc.length : Int) == 0) = true := beq_iff_eq.2 (by omega)
       have wI:(acc.length == 0)=true:=beq_iff_eq.2 (by omega)
       have HZ:=Lib.hid hz
       clear hz
       go_wp2_with fail
       go_quiet (fail)
       have dX:=HT.out.ci.drewN nq
       have bK:=HT.out.hold.ch (by have:=HT.out.lo;have:=HT.out.ci.lt;omega) gu (Ch.drewN p nq)
       have hown1:=dn HT.out.own nq
       generalize hwq:wo.drewN nq=wq at dX bK hown1 ⊢
       have H1:=Lib.hid (And.intro dX (And.intro bK hown1))
       clear hwq dX bK hown1 d0 d1 d2 g0 g1 g2
       go_wp2_with fail
       have dY:=iM p k s.size L _ _ H1.out.1 nk.out
       unfold jl at dY
       rw[HC.out.1] at dY
       have mF:=Lib.hid dY
       clear dY
       refine mF.out.mono ?_
       rintro e w8 ⟨rfl,eO⟩
       have aZ:=H1.out.2.1.ch (by have:=HT.out.lo;have:=H1.out.1.lt;omega) gu eO
       have iK:w.heap.size+1+1<w8.heap.size:=by have:=H1.out.1.lt;have:=eO.size;omega
       have H8:=Lib.hid (And.intro aZ iK)
       clear aZ iK eO
       go_wp2
       obtain⟨bK,iK⟩:=H8.out
       refine leaves_cons (f:=195) (args:=#[.pointer (some ⟨w.heap.size,0,none⟩),.pointer (some ⟨w.heap.size+1,0,none⟩),.pointer (some ⟨w.heap.size+1+1,0,none⟩)]) (by simp) (by simp[go_sem]) ?_
       refine(kJ _ _ _ 3 ((aA L s.size j:Nat):Int) _ _ _ w8 bK.h0 bK.h1 bK.h2 (by omega) (by omega) (by omega)).mono ?_
       rintro e u' w7 ⟨rfl,rfl,K0,K1,K2,eU⟩
       have jS:Below w.heap.size w w7:=bK.aV.trans (eU _ (Nat.le_refl _) (by omega) (by omega) (by omega))
       obtain⟨c0,z0⟩:=aj K0
       obtain⟨c1,z1⟩:=aj K1
       obtain⟨c2,z2⟩:=aj K2
       simp[Leaves,settle,results,Tryz.results184,go_sem,c0,c1,c2]
       exact sH HC.out.2 rfl jS
     · have hac : ((acc.length : Int) == 0) = false := beq_eq_false_iff_ne.2 (by omega)
       have wI:(acc.length == 0)=false:=beq_eq_false_iff_ne.2 (by omega)
       have hkk:decide ((k:Int)<(L.length:Int))=true:=by simp;omega
       have xY:decide (k<L.length)=true:=by simp;omega
       go_wp2_with fail
       go_quiet (fail)
       have dX:=HT.out.ci.drewN nq
       have bK:=HT.out.hold.ch (by have:=HT.out.lo;have:=HT.out.ci.lt;omega) gu (Ch.drewN p nq)
       have hown1:=dn HT.out.own nq
       generalize hwq:wo.drewN nq=wq at dX bK hown1 ⊢
       have H1:=Lib.hid (And.intro dX (And.intro bK hown1))
       clear hwq dX bK hown1 d0 d1 d2 g0 g1 g2
       go_wp2_with fail
       have dY:=iM p k s.size L _ _ H1.out.1 nk.out
       unfold jl at dY
       rw[HC.out.1] at dY
       have mF:=Lib.hid dY
       clear dY
       refine mF.out.mono ?_
       rintro e w8 ⟨rfl,eO⟩
       have aZ:=H1.out.2.1.ch (by have:=HT.out.lo;have:=H1.out.1.lt;omega) gu eO
       have iK:w.heap.size+1+1<w8.heap.size:=by have:=H1.out.1.lt;have:=eO.size;omega
       have H8:=Lib.hid (And.intro aZ iK)
       clear aZ iK eO
       go_wp2
       obtain⟨bK,iK⟩:=H8.out
       refine leaves_cons (f:=195) (args:=#[.pointer (some ⟨w.heap.size,0,none⟩),.pointer (some ⟨w.heap.size+1,0,none⟩),.pointer (some ⟨w.heap.size+1+1,0,none⟩)]) (by simp) (by simp[go_sem]) ?_
       refine(kJ _ _ _ 3 ((aA L s.size j:Nat):Int) _ _ _ w8 bK.h0 bK.h1 bK.h2 (by omega) (by omega) (by omega)).mono ?_
       rintro e u' w7 ⟨rfl,rfl,K0,K1,K2,eU⟩
       have jS:Below w.heap.size w w7:=bK.aV.trans (eU _ (Nat.le_refl _) (by omega) (by omega) (by omega))
       obtain⟨c0,z0⟩:=aj K0
       obtain⟨c1,z1⟩:=aj K1
       obtain⟨c2,z2⟩:=aj K2
       simp[Leaves,settle,results,Tryz.results184,go_sem,c0,c1,c2]
       exact sH HC.out.2 rfl jS
    | ok r =>
     obtain⟨⟨qa,qc⟩,k'⟩:=r
     have hko:=y8 nk.out hel
     have HC:=Lib.hid hel
     have FV:=Lib.hid (fun w2 u2 hh hci hown=>HT.out.next (w2:=w2) (u2:=u2) nk.out hgo hel hh hci hown)
     have hkl':k<L.length:=hko.2.1
     clear hel
     have hgd:acc=[]∨k<L.length:=by
      rcases Nat.lt_or_ge k L.length with h|h
      · exact .inr h
      · exact .inl (Classical.byContradiction fun hne=>hgo ⟨hne,h⟩)
     clear hgo
     rcases(show acc.length=0∨(0<acc.length∧k<L.length) from by
      rcases hgd with h|h
      · exact .inl (by rw[h];rfl)
      · rcases Nat.eq_zero_or_pos acc.length with h2 | h2
        · exact .inl h2
        · exact .inr ⟨h2,h⟩) with hz|⟨hz,OP⟩
     all_goals clear hgd
     · have hac : ((acc.length : Int) == 0) = true := beq_iff_eq.2 (by omega)
       have wI:(acc.length == 0)=true:=beq_iff_eq.2 (by omega)
       have HZ:=Lib.hid hz
       clear hz
       go_wp2_with fail
       go_quiet (fail)
       have dX:=HT.out.ci.drewN nq
       have bK:=HT.out.hold.ch (by have:=HT.out.lo;have:=HT.out.ci.lt;omega) gu (Ch.drewN p nq)
       have hown1:=dn HT.out.own nq
       generalize hwq:wo.drewN nq=wq at dX bK hown1 ⊢
       have H1:=Lib.hid (And.intro dX (And.intro bK hown1))
       clear hwq dX bK hown1 d0 d1 d2 g0 g1 g2
       go_wp2_with fail
       have dY:=iM p k s.size L _ _ H1.out.1 nk.out
       unfold jl at dY
       rw[HC.out] at dY
       have mF:=Lib.hid dY
       clear dY
       refine mF.out.mono ?_
       rintro e w8 ⟨rfl,jB,eO⟩
       have aZ:=H1.out.2.1.ch (by have:=HT.out.lo;have:=H1.out.1.lt;omega) gu eO
       have FQ:p<w8.heap.size:=jB.lt
       have fZ:w8.ownsRow (p+1) 79 2 (.slice o7 acc.length c7) acc.length (flatK .i32 acc):=by
        have h:=H1.out.2.2
        have hlt:=h.lt
        obtain⟨h1,⟨e1,e2⟩|⟨g,cap,cur,e1,hg,hb,hr⟩⟩:=h
        · exact⟨h1,.inl ⟨e1,e2⟩⟩
        · refine ⟨h1, .inr ⟨g, cap, cur, e1, hg, ?_, hr⟩⟩
          rw[eO.block g (by have:=(hlt g (by rw[e1];rfl)).2;omega) (by omega)];exact hb
       have iK:w.heap.size+1+1<w8.heap.size:=by have:=H1.out.1.lt;have:=eO.size;omega
       have H8:=Lib.hid (And.intro aZ (And.intro jB fZ))
       have hxs:acc.length≤100000:=by omega
       clear aZ eO jB fZ
       go_wp2_with (at_builtin;refine bB _ rfl _ _ 32 rfl (p+1) 79 ii (.agg #[.int .i32 0,.int .i32 0]) 2 8 Tryz.underlying32 hi hz0 hz1 hz2 rfl (by decide) (.slice o7 acc.length c7) acc.length (flatK .i32 acc) rfl ?hown _ 1 [.int .i32 qa,.int .i32 qc] rfl ?hrow rfl ?hone ?h63 ?hby ?hbase ?_)
       case hown=>exact H8.out.2.2.alloc _
       case hrow=>exact iW _ _ _ _ _ (by simp)
       case hone=>simp[Value.oneCell']
       case h63=>unfold maxLen;omega
       case hby=>omega
       case hbase=>simp<;>omega
       intro v' w9 aI gW
       have gL:∀j,(Value.slice o7 acc.length c7).ownBlock=some j→p+1≤j:=fun j hj=>(H8.out.2.2.lt j hj).1
       have gB:=(H8.out.1.below iK (ah (Below.refl _ _) (.cells #[.int .i32 qa,.int .i32 qc] 79))).grown (by simp<;>omega) gW (fun j hj=>by have:=gL j hj;omega)
       have tJ:CI w9 p L k' s.size (.slice ou L.length cu):=by
        have h1:=H8.out.2.1.moved (ah (Below.refl _ _) (.cells #[.int .i32 qa,.int .i32 qc] 79))
        have hblk:∀j,j<p+1→w9.heap[j]? = (w8.alloc (.cells #[.int .i32 qa,.int .i32 qc] 79)).heap[j]?:=fun j hj=>gW.block j (by simp;omega) (fun e=>by have:=gL j e.symm;omega)
        exact h1.low hblk (by have:=gW.size;simpa using this) (fun b off e=>(og.out b off e).1)
       obtain⟨o9,c9,rfl⟩:=au aI
       obtain⟨f',hnx⟩:=FV.out _ _ gB tJ aI
       have HN:=Lib.hid hnx
       clear gB tJ gW aI gL hnx
       go_wp2
       go_roundw
       case rel=>exact⟨_,_,_,by simp[lenOf],HN.out⟩
       case measure=>simp[lenOf]<;>omega
     · have hac : ((acc.length : Int) == 0) = false := beq_eq_false_iff_ne.2 (by omega)
       have wI:(acc.length == 0)=false:=beq_eq_false_iff_ne.2 (by omega)
       have hkk:decide ((k:Int)<(L.length:Int))=true:=by simp;omega
       have xY:decide (k<L.length)=true:=by simp;omega
       go_wp2_with fail
       go_quiet (fail)
       have dX:=HT.out.ci.drewN nq
       have bK:=HT.out.hold.ch (by have:=HT.out.lo;have:=HT.out.ci.lt;omega) gu (Ch.drewN p nq)
       have hown1:=dn HT.out.own nq
       generalize hwq:wo.drewN nq=wq at dX bK hown1 ⊢
       have H1:=Lib.hid (And.intro dX (And.intro bK hown1))
       clear hwq dX bK hown1 d0 d1 d2 g0 g1 g2
       go_wp2_with fail
       have dY:=iM p k s.size L _ _ H1.out.1 nk.out
       unfold jl at dY
       rw[HC.out] at dY
       have mF:=Lib.hid dY
       clear dY
       refine mF.out.mono ?_
       rintro e w8 ⟨rfl,jB,eO⟩
       have aZ:=H1.out.2.1.ch (by have:=HT.out.lo;have:=H1.out.1.lt;omega) gu eO
       have FQ:p<w8.heap.size:=jB.lt
       have fZ:w8.ownsRow (p+1) 79 2 (.slice o7 acc.length c7) acc.length (flatK .i32 acc):=by
        have h:=H1.out.2.2
        have hlt:=h.lt
        obtain⟨h1,⟨e1,e2⟩|⟨g,cap,cur,e1,hg,hb,hr⟩⟩:=h
        · exact⟨h1,.inl ⟨e1,e2⟩⟩
        · refine ⟨h1, .inr ⟨g, cap, cur, e1, hg, ?_, hr⟩⟩
          rw[eO.block g (by have:=(hlt g (by rw[e1];rfl)).2;omega) (by omega)];exact hb
       have iK:w.heap.size+1+1<w8.heap.size:=by have:=H1.out.1.lt;have:=eO.size;omega
       have H8:=Lib.hid (And.intro aZ (And.intro jB fZ))
       have hxs:acc.length≤100000:=by omega
       clear aZ eO jB fZ
       go_wp2_with (at_builtin;refine bB _ rfl _ _ 32 rfl (p+1) 79 ii (.agg #[.int .i32 0,.int .i32 0]) 2 8 Tryz.underlying32 hi hz0 hz1 hz2 rfl (by decide) (.slice o7 acc.length c7) acc.length (flatK .i32 acc) rfl ?hown _ 1 [.int .i32 qa,.int .i32 qc] rfl ?hrow rfl ?hone ?h63 ?hby ?hbase ?_)
       case hown=>exact H8.out.2.2.alloc _
       case hrow=>exact iW _ _ _ _ _ (by simp)
       case hone=>simp[Value.oneCell']
       case h63=>unfold maxLen;omega
       case hby=>omega
       case hbase=>simp<;>omega
       intro v' w9 aI gW
       have gL:∀j,(Value.slice o7 acc.length c7).ownBlock=some j→p+1≤j:=fun j hj=>(H8.out.2.2.lt j hj).1
       have gB:=(H8.out.1.below iK (ah (Below.refl _ _) (.cells #[.int .i32 qa,.int .i32 qc] 79))).grown (by simp<;>omega) gW (fun j hj=>by have:=gL j hj;omega)
       have tJ:CI w9 p L k' s.size (.slice ou L.length cu):=by
        have h1:=H8.out.2.1.moved (ah (Below.refl _ _) (.cells #[.int .i32 qa,.int .i32 qc] 79))
        have hblk:∀j,j<p+1→w9.heap[j]? = (w8.alloc (.cells #[.int .i32 qa,.int .i32 qc] 79)).heap[j]?:=fun j hj=>gW.block j (by simp;omega) (fun e=>by have:=gL j e.symm;omega)
        exact h1.low hblk (by have:=gW.size;simpa using this) (fun b off e=>(og.out b off e).1)
       obtain⟨o9,c9,rfl⟩:=au aI
       obtain⟨f',hnx⟩:=FV.out _ _ gB tJ aI
       have HN:=Lib.hid hnx
       clear gB tJ gW aI gL hnx
       go_wp2
       go_roundw
       case rel=>exact⟨_,_,_,by simp[lenOf],HN.out⟩
       case measure=>simp[lenOf]<;>omega
theorem FW (s:ByteArray) (w:World) (hs:s.size≤100000) (hpl:Sc (all 0 (sb s))) (hb:decide (pk (all 0 (sb s)) 0=94)=false):Calls Tryz.prog 184 #[.string s] w (kY (all 0 (sb s)) s.size w):=by
 have ng:∀(fn:Fn) (first cap:Array Value) (w:World),(Instr.makeFunc fn first cap).run Tryz.prog w=.ok (.func fn first cap) w:=fun _ _ _ _=>rfl
 have pz:=fun w=>Lib.run_convert_string_bytes (P:=Tryz.prog) w 9 84 5 s Tryz.underlying9 Tryz.underlying84 Tryz.underlying5
 obtain⟨ii,hi,hz0,hz1,hz2⟩:=mD
 obtain⟨W3,hW3⟩:∃W3,W3=(((w.alloc (.cells #[.slice none 0 0] 32)).alloc (.cells #[.int .i64 0] 3)).alloc (.cells #[.int .i64 0] 3)):=⟨_,rfl⟩
 obtain⟨g0,g1,g2,g3,g4⟩:=lD w _ _ _ W3 hW3
 have hcr:=sw W3 s (by omega)
 rw[g3] at hcr
 have hall:=sD (sb s) (.slice (some ⟨w.heap.size+1+1+1,0,none⟩) s.size (grownCap W3 s.size 0 5)) (Lib.bytesWorld W3 5 s) hcr (oJ s) (by rw[bg];omega)
 clear hcr
 have hlen:=ql 0 (sb s)
 rw[bg] at hlen
 obtain⟨L,hL⟩:∃L,L=all 0 (sb s):=⟨_,rfl⟩
 rw[←hL] at hall hlen hpl hb ⊢
 have HA:=Lib.hid hall
 have nk:=Lib.hid hpl
 have HB:=Lib.hid hb
 have HG:=Lib.hid (And.intro hW3 (And.intro g0 (And.intro g1 (And.intro g2 (And.intro g3 g4)))))
 clear hW3 g0 g1 g2 g3 g4 hall hpl hb hL
 go_enter_defers Tryz.func184,Tryz.ntmps184
 go_wp2_with fail
 obtain⟨hW3,g0,g1,g2,g3,g4⟩:=HG.out
 rw[←hW3]
 refine HA.out.mono ?_
 rintro e w4 ⟨uv,rfl,bN,hb4⟩
 have hbW:Below W3.heap.size W3 w4:=ak (lI W3 _ s) hb4
 have bQ:dR w w4 (.slice none 0 0):=dR.below ⟨g0,g1,g2,g4⟩ (by omega) hbW
 have lF:=hbW.size
 obtain⟨p,hp⟩:∃p,p=w4.heap.size:=⟨_,rfl⟩
 obtain⟨ou,cu,rfl⟩:=au bN
 have hci:CI (w4.alloc (.cells #[.slice ou L.length cu,.int .i64 ((0:Nat):Int),.int .i64 s.size] 235)) p L 0 s.size (.slice ou L.length cu):=by
  refine⟨by rw[hp];exact heap_alloc_new _ _,(Row.owned bN).below (ah (Below.refl _ _) _),?_,Nat.zero_le _,by omega⟩
  intro b off cap e
  simp only[Value.slice.injEq,true_and] at e
  obtain⟨rfl,rfl⟩:=e
  have:=(bN.lt b rfl).2
  omega
 have dM:dR w (w4.alloc (.cells #[.slice ou L.length cu,.int .i64 ((0:Nat):Int),.int .i64 s.size] 235)) (.slice none 0 0):=bQ.below (by omega) (ah (Below.refl _ _) _)
 obtain⟨W5,bT⟩:∃W5,W5=w4.alloc (.cells #[.slice ou L.length cu,.int .i64 ((0:Nat):Int),.int .i64 s.size] 235):=⟨_,rfl⟩
 rw[←bT] at hci dM
 have gu:w.heap.size+1+1<p:=by omega
 have hps:p<W5.heap.size:=hci.lt
 have hlow : ∀ b off, ou = some ⟨b, off, none⟩ → b < p + 1 ∧ b ≠ w.heap.size := fun b off e => by
  subst e
  have h1:=(bN.lt b rfl).2
  have h2:=(bN.lt b rfl).1
  rw[Lib.bytesWorld_size] at h2
  omega
 have og:=Lib.hid hlow
 clear hlow
 have H5:=Lib.hid (And.intro hci (And.intro dM (And.intro bT hp)))
 clear hci dM bN hb4 hbW bQ g0 g1 g2 g3 g4 hW3 pz HG hp lF bT
 go_wp2_with fail
 rw[←H5.out.2.2.2]
 have bT:=H5.out.2.2.1
 simp only[Int.natCast_zero,Int.ofNat_zero] at bT
 rw[←bT]
 clear bT
 refine(l8 p 0 s.size L _ _ H5.out.1).mono ?_
 rintro e w6 ⟨rfl,q,rfl⟩
 obtain⟨r0,hr0⟩:∃r0,r0=pk L 0:=⟨_,rfl⟩
 rw[←hr0]
 have Z8:(r0 == 94)=false:=by rw[hr0];exact HB.out
 have wZ:=Lib.hid hr0
 clear hr0
 have Ah:=H5.out.1.drewN q
 have dZ:=H5.out.2.1.ch (by omega) gu (Ch.drewN p q)
 go_wp2_with fail
 obtain⟨W6,bA⟩:∃W6,W6=W5.drewN q:=⟨_,rfl⟩
 rw[←bA] at Ah dZ ⊢
 clear bA
 have hat:mq w W6 p L 0 s.size (.slice ou L.length cu) (.slice none 0 0) [] (L.length+2) 0:=
  ⟨dZ,Ah,gu,World.ownsRow_nil _ _ _ _,Nat.zero_le _,fun x hx=>by simp at hx,rfl,by omega⟩
 have HAT:=Lib.hid hat
 clear hat dZ Ah
 go_loopw [7] (fun u wr=>∃(acc:List Ru.Pc) (f k:Nat),lenOf u=acc.length∧mq w wr p L 0 s.size (.slice ou L.length cu) u acc f k) (fun u _=>L.length+1-lenOf u)
 case atStart=>exact⟨[],_,_,rfl,HAT.out⟩
 case round=>
  obtain⟨acc,f,k,UM,hat⟩:=hrel
  obtain⟨wo,rfl⟩:∃wo:World,wo=wr:=⟨_,rfl⟩
  have hkl:=hat.ci.le
  have hal:=hat.len
  obtain⟨o7,c7,rfl⟩:=au hat.own
  obtain⟨⟨d0,d1,d2⟩,g0,g1,g2⟩:=gD hat.ci.hh
  have HT:=Lib.hid hat
  clear hat HAT UM
  by_cases hgo:acc≠[]∧L.length≤k
  · have hkn : k = L.length := by omega
    have hac:(acc.length == 0)=false:=beq_eq_false_iff_ne.2 (by have:=List.length_pos_iff.2 hgo.1;omega)
    have wI:((acc.length:Int) == 0)=false:=beq_eq_false_iff_ne.2 (by have:=List.length_pos_iff.2 hgo.1;omega)
    have hkk:decide ((k:Int)<(L.length:Int))=false:=by simp;omega
    have xY:decide (k<L.length)=false:=by simp;omega
    have Y7:L.length≤k:=hgo.2
    clear hkn
    have hels:=HT.out.stop hgo.1 hgo.2
    have HE:=Lib.hid hels
    have UN:=Lib.hid hgo.1
    clear hels hgo
    go_wp2_with fail
    go_quiet (fail)
    have dX:=HT.out.ci.drewN nq
    have bK:=HT.out.hold.ch (by have:=HT.out.lo;have:=HT.out.ci.lt;omega) gu (Ch.drewN p nq)
    have hown1:=dn HT.out.own nq
    generalize hwq:wo.drewN nq=wq at dX bK hown1 ⊢
    have H1:=Lib.hid (And.intro dX (And.intro bK hown1))
    clear hwq dX bK hown1 d0 d1 d2 g0 g1 g2
    go_wp2_with fail
    refine(zG acc _ _ _ H1.out.2.2 (by omega) HT.out.ok).mono ?_
    rintro e w8 ⟨u8,rfl,fZ,Bu⟩
    have gF:Below (p+1) wq w8:=Bu _ (by have:=H1.out.1.lt;omega) (fun j hj=>(H1.out.2.2.lt j hj).1)
    have aZ:=H1.out.2.1.low (q:=p+1) (by omega) gF
    have jB:=H1.out.1.low (fun j hj=>gF.block j hj) gF.size (fun b off e=>(og.out b off e).1)
    have hwq:w.heap.size<wq.heap.size:=by have:=H1.out.1.lt;omega
    rw[Ru.vN] at fZ
    have tH:w8.ownsRow wq.heap.size 79 2 u8 (Ru.aT acc).length (flatK .i32 (Ru.aY (Ru.aT acc))):=fZ
    obtain⟨o8,c8,rfl⟩:=au tH
    have FQ:=jB.lt
    have iK:w.heap.size+1+1<w8.heap.size:=by omega
    obtain⟨d0,g0⟩:=aj aZ.h0
    obtain⟨d1,g1⟩:=aj aZ.h1
    obtain⟨d2,g2⟩:=aj aZ.h2
    have Z9:(Ru.aT acc).length≤100000:=by have:=Ru.sM acc;omega
    obtain⟨X,hX⟩:∃X,X=w8.setCell ⟨w.heap.size,0,none⟩ (.slice o8 (Ru.aT acc).length c8):=⟨_,rfl⟩
    have HX:Hid (dR w X (.slice o8 (Ru.aT acc).length c8)∧CI X p L k s.size (.slice ou L.length cu)∧X.ownsRow wq.heap.size 79 2 (.slice o8 (Ru.aT acc).length c8) (Ru.aT acc).length (flatK .i32 (Ru.aY (Ru.aT acc)))∧w.heap.size+1+1<X.heap.size):=Lib.hid (by
     rw[hX]
     exact⟨aZ.set _,jB.FR (by omega) (fun b off e=>(og.out b off e).2),aX tH hwq,by simpa [World.setCell] using iK⟩)
    have QM:=Lib.hid hX
    have HWQ:=Lib.hid hwq
    clear hX fZ tH aZ jB Bu gF
    have wJ:aA L s.size k=s.size:=by unfold aA;rw[List.getElem?_eq_none (by omega)]
    have OO:=Lib.hid wJ
    clear wJ
    by_cases hS:(Ru.aT acc).length=0
    · have tz : ((((Ru.aT acc).length : Nat) : Int) == 0) = true := beq_iff_eq.2 (by omega)
      have UO:((Ru.aT acc).length == 0)=true:=beq_iff_eq.2 hS
      have hcl:kE L s.size=.bad s.size:=by
       rw[wH HB.out HE.out (S:=Ru.nE acc) rfl,if_pos]
       exact List.eq_nil_of_length_eq_zero (by rw[Ru.vN];exact hS)
      have ni:=Lib.hid hcl
      clear hcl hS
      go_wp2_with fail
      rw[←QM.out]
      refine(oF p k s.size L _ _ HX.out.2.1).mono ?_
      rintro e w12 ⟨rfl,q2,rfl⟩
      go_wp2
      have hcl:=ni.out
      have wJ:=OO.out
      have hhz:=HX.out.1.below HX.out.2.2.2 (below_drewN (Below.refl _ _) q2)
      refine leaves_cons (f:=195) (args:=#[.pointer (some ⟨w.heap.size,0,none⟩),.pointer (some ⟨w.heap.size+1,0,none⟩),.pointer (some ⟨w.heap.size+1+1,0,none⟩)]) (by simp) (by simp[go_sem]) ?_
      refine(kJ _ _ _ 3 ((aA L s.size k:Nat):Int) _ _ _ _ hhz.h0 hhz.h1 hhz.h2 (by omega) (by omega) (by omega)).mono ?_
      rintro e u' w7 ⟨rfl,rfl,K0,K1,K2,eU⟩
      have jS:Below w.heap.size w w7:=hhz.aV.trans (eU _ (Nat.le_refl _) (by omega) (by omega) hhz.aV.size)
      obtain⟨c0,z0⟩:=aj K0
      obtain⟨c1,z1⟩:=aj K1
      obtain⟨c2,z2⟩:=aj K2
      simp[Leaves,settle,results,Tryz.results184,go_sem,c0,c1,c2]
      exact sH hcl (by rw[wJ]) jS
    · have tz : ((((Ru.aT acc).length : Nat) : Int) == 0) = false := beq_eq_false_iff_ne.2 (by omega)
      have UO:((Ru.aT acc).length == 0)=false:=beq_eq_false_iff_ne.2 hS
      have hcl:kE L s.size=.ok (Ru.nE acc):=by
       rw[wH HB.out HE.out (S:=Ru.nE acc) rfl,if_neg]
       intro e
       exact hS (by rw[←Ru.vN,e];rfl)
      have ni:=Lib.hid hcl
      clear hcl hS
      go_wp2
      rw[←QM.out]
      obtain⟨W8,dG⟩:∃W8,W8=((X.setCell ⟨w.heap.size,0,none⟩ (.slice o8 (Ru.aT acc).length c8)).setCell ⟨w.heap.size+1,0,none⟩ (.int .i64 0)).setCell ⟨w.heap.size+1+1,0,none⟩ (.int .i64 0):=⟨_,rfl⟩
      rw[←dG]
      have aZ:dR w W8 (.slice o8 (Ru.aT acc).length c8):=by rw[dG];exact HX.out.1.again
      have hbw:w.heap.size+1+1<wq.heap.size:=by have:=H1.out.1.lt;omega
      have fZ:W8.ownsRow wq.heap.size 79 2 (.slice o8 (Ru.aT acc).length c8) (Ru.aT acc).length (flatK .i32 (Ru.aY (Ru.aT acc))):=by
       rw[dG]
       exact aX (aX (aX HX.out.2.2.1 (by omega)) (by omega)) (by omega)
      have iK:w.heap.size+1+1<W8.heap.size:=by rw[dG];simpa [World.setCell] using HX.out.2.2.2
      clear dG
      refine leaves_cons (f:=195) (args:=#[.pointer (some ⟨w.heap.size,0,none⟩),.pointer (some ⟨w.heap.size+1,0,none⟩),.pointer (some ⟨w.heap.size+1+1,0,none⟩)]) (by simp) (by simp[go_sem]) ?_
      refine(zH _ _ _ _).mono ?_
      rintro e u' w'' ⟨rfl,rfl,rfl⟩
      have gB:=aZ.below iK (ah (Below.refl _ _) (.cells #[.int .i64 0,.int .i64 0] 103))
      have aI:=bS fZ (ah (Below.refl _ _) (.cells #[.int .i64 0,.int .i64 0] 103))
      obtain⟨W9,bP⟩:∃W9,W9=W8.alloc (.cells #[.int .i64 0,.int .i64 0] 103):=⟨_,rfl⟩
      rw[←bP] at gB aI ⊢
      clear bP d0 d1 d2 g0 g1 g2
      obtain⟨c0,z0⟩:=aj gB.h0
      obtain⟨c1,z1⟩:=aj gB.h1
      obtain⟨c2,z2⟩:=aj gB.h2
      simp[Leaves,settle,results,Tryz.results184,go_sem,c0,c1,c2]
      unfold kY
      rw[ni.out]
      exact⟨_,rfl,by rw[Ru.vN];exact ji aI (by omega),gB.aV⟩
  · cases hel : kU L k with
    | error j =>
     have hels:=HT.out.no hgo hel
     have hcl:=FP (n:=s.size) HB.out hels
     have HC:=Lib.hid (And.intro hel hcl)
     clear hels hcl hel
     have hgd:acc=[]∨k<L.length:=by
      rcases Nat.lt_or_ge k L.length with h|h
      · exact .inr h
      · exact .inl (Classical.byContradiction fun hne=>hgo ⟨hne,h⟩)
     clear hgo
     rcases(show acc.length=0∨(0<acc.length∧k<L.length) from by
      rcases hgd with h|h
      · exact .inl (by rw[h];rfl)
      · rcases Nat.eq_zero_or_pos acc.length with h2 | h2
        · exact .inl h2
        · exact .inr ⟨h2,h⟩) with hz|⟨hz,OP⟩
     all_goals clear hgd
     · have hac : ((acc.length : Int) == 0) = true := beq_iff_eq.2 (by omega)
       have wI:(acc.length == 0)=true:=beq_iff_eq.2 (by omega)
       have HZ:=Lib.hid hz
       clear hz
       go_wp2_with fail
       go_quiet (fail)
       have dX:=HT.out.ci.drewN nq
       have bK:=HT.out.hold.ch (by have:=HT.out.lo;have:=HT.out.ci.lt;omega) gu (Ch.drewN p nq)
       have hown1:=dn HT.out.own nq
       generalize hwq:wo.drewN nq=wq at dX bK hown1 ⊢
       have H1:=Lib.hid (And.intro dX (And.intro bK hown1))
       clear hwq dX bK hown1 d0 d1 d2 g0 g1 g2
       go_wp2_with fail
       have dY:=iM p k s.size L _ _ H1.out.1 nk.out
       unfold jl at dY
       rw[HC.out.1] at dY
       have mF:=Lib.hid dY
       clear dY
       refine mF.out.mono ?_
       rintro e w8 ⟨rfl,eO⟩
       have aZ:=H1.out.2.1.ch (by have:=HT.out.lo;have:=H1.out.1.lt;omega) gu eO
       have iK:w.heap.size+1+1<w8.heap.size:=by have:=H1.out.1.lt;have:=eO.size;omega
       have H8:=Lib.hid (And.intro aZ iK)
       clear aZ iK eO
       go_wp2
       obtain⟨bK,iK⟩:=H8.out
       refine leaves_cons (f:=195) (args:=#[.pointer (some ⟨w.heap.size,0,none⟩),.pointer (some ⟨w.heap.size+1,0,none⟩),.pointer (some ⟨w.heap.size+1+1,0,none⟩)]) (by simp) (by simp[go_sem]) ?_
       refine(kJ _ _ _ 3 ((aA L s.size j:Nat):Int) _ _ _ w8 bK.h0 bK.h1 bK.h2 (by omega) (by omega) (by omega)).mono ?_
       rintro e u' w7 ⟨rfl,rfl,K0,K1,K2,eU⟩
       have jS:Below w.heap.size w w7:=bK.aV.trans (eU _ (Nat.le_refl _) (by omega) (by omega) (by omega))
       obtain⟨c0,z0⟩:=aj K0
       obtain⟨c1,z1⟩:=aj K1
       obtain⟨c2,z2⟩:=aj K2
       simp[Leaves,settle,results,Tryz.results184,go_sem,c0,c1,c2]
       exact sH HC.out.2 rfl jS
     · have hac : ((acc.length : Int) == 0) = false := beq_eq_false_iff_ne.2 (by omega)
       have wI:(acc.length == 0)=false:=beq_eq_false_iff_ne.2 (by omega)
       have hkk:decide ((k:Int)<(L.length:Int))=true:=by simp;omega
       have xY:decide (k<L.length)=true:=by simp;omega
       go_wp2_with fail
       go_quiet (fail)
       have dX:=HT.out.ci.drewN nq
       have bK:=HT.out.hold.ch (by have:=HT.out.lo;have:=HT.out.ci.lt;omega) gu (Ch.drewN p nq)
       have hown1:=dn HT.out.own nq
       generalize hwq:wo.drewN nq=wq at dX bK hown1 ⊢
       have H1:=Lib.hid (And.intro dX (And.intro bK hown1))
       clear hwq dX bK hown1 d0 d1 d2 g0 g1 g2
       go_wp2_with fail
       have dY:=iM p k s.size L _ _ H1.out.1 nk.out
       unfold jl at dY
       rw[HC.out.1] at dY
       have mF:=Lib.hid dY
       clear dY
       refine mF.out.mono ?_
       rintro e w8 ⟨rfl,eO⟩
       have aZ:=H1.out.2.1.ch (by have:=HT.out.lo;have:=H1.out.1.lt;omega) gu eO
       have iK:w.heap.size+1+1<w8.heap.size:=by have:=H1.out.1.lt;have:=eO.size;omega
       have H8:=Lib.hid (And.intro aZ iK)
       clear aZ iK eO
       go_wp2
       obtain⟨bK,iK⟩:=H8.out
       refine leaves_cons (f:=195) (args:=#[.pointer (some ⟨w.heap.size,0,none⟩),.pointer (some ⟨w.heap.size+1,0,none⟩),.pointer (some ⟨w.heap.size+1+1,0,none⟩)]) (by simp) (by simp[go_sem]) ?_
       refine(kJ _ _ _ 3 ((aA L s.size j:Nat):Int) _ _ _ w8 bK.h0 bK.h1 bK.h2 (by omega) (by omega) (by omega)).mono ?_
       rintro e u' w7 ⟨rfl,rfl,K0,K1,K2,eU⟩
       have jS:Below w.heap.size w w7:=bK.aV.trans (eU _ (Nat.le_refl _) (by omega) (by omega) (by omega))
       obtain⟨c0,z0⟩:=aj K0
       obtain⟨c1,z1⟩:=aj K1
       obtain⟨c2,z2⟩:=aj K2
       simp[Leaves,settle,results,Tryz.results184,go_sem,c0,c1,c2]
       exact sH HC.out.2 rfl jS
    | ok r =>
     obtain⟨⟨qa,qc⟩,k'⟩:=r
     have hko:=y8 nk.out hel
     have HC:=Lib.hid hel
     have FV:=Lib.hid (fun w2 u2 hh hci hown=>HT.out.next (w2:=w2) (u2:=u2) nk.out hgo hel hh hci hown)
     have hkl':k<L.length:=hko.2.1
     clear hel
     have hgd:acc=[]∨k<L.length:=by
      rcases Nat.lt_or_ge k L.length with h|h
      · exact .inr h
      · exact .inl (Classical.byContradiction fun hne=>hgo ⟨hne,h⟩)
     clear hgo
     rcases(show acc.length=0∨(0<acc.length∧k<L.length) from by
      rcases hgd with h|h
      · exact .inl (by rw[h];rfl)
      · rcases Nat.eq_zero_or_pos acc.length with h2 | h2
        · exact .inl h2
        · exact .inr ⟨h2,h⟩) with hz|⟨hz,OP⟩
     all_goals clear hgd
     · have hac : ((acc.length : Int) == 0) = true := beq_iff_eq.2 (by omega)
       have wI:(acc.length == 0)=true:=beq_iff_eq.2 (by omega)
       have HZ:=Lib.hid hz
       clear hz
       go_wp2_with fail
       go_quiet (fail)
       have dX:=HT.out.ci.drewN nq
       have bK:=HT.out.hold.ch (by have:=HT.out.lo;have:=HT.out.ci.lt;omega) gu (Ch.drewN p nq)
       have hown1:=dn HT.out.own nq
       generalize hwq:wo.drewN nq=wq at dX bK hown1 ⊢
       have H1:=Lib.hid (And.intro dX (And.intro bK hown1))
       clear hwq dX bK hown1 d0 d1 d2 g0 g1 g2
       go_wp2_with fail
       have dY:=iM p k s.size L _ _ H1.out.1 nk.out
       unfold jl at dY
       rw[HC.out] at dY
       have mF:=Lib.hid dY
       clear dY
       refine mF.out.mono ?_
       rintro e w8 ⟨rfl,jB,eO⟩
       have aZ:=H1.out.2.1.ch (by have:=HT.out.lo;have:=H1.out.1.lt;omega) gu eO
       have FQ:p<w8.heap.size:=jB.lt
       have fZ:w8.ownsRow (p+1) 79 2 (.slice o7 acc.length c7) acc.length (flatK .i32 acc):=by
        have h:=H1.out.2.2
        have hlt:=h.lt
        obtain⟨h1,⟨e1,e2⟩|⟨g,cap,cur,e1,hg,hb,hr⟩⟩:=h
        · exact⟨h1,.inl ⟨e1,e2⟩⟩
        · refine ⟨h1, .inr ⟨g, cap, cur, e1, hg, ?_, hr⟩⟩
          rw[eO.block g (by have:=(hlt g (by rw[e1];rfl)).2;omega) (by omega)];exact hb
       have iK:w.heap.size+1+1<w8.heap.size:=by have:=H1.out.1.lt;have:=eO.size;omega
       have H8:=Lib.hid (And.intro aZ (And.intro jB fZ))
       have hxs:acc.length≤100000:=by omega
       clear aZ eO jB fZ
       go_wp2_with (at_builtin;refine bB _ rfl _ _ 32 rfl (p+1) 79 ii (.agg #[.int .i32 0,.int .i32 0]) 2 8 Tryz.underlying32 hi hz0 hz1 hz2 rfl (by decide) (.slice o7 acc.length c7) acc.length (flatK .i32 acc) rfl ?hown _ 1 [.int .i32 qa,.int .i32 qc] rfl ?hrow rfl ?hone ?h63 ?hby ?hbase ?_)
       case hown=>exact H8.out.2.2.alloc _
       case hrow=>exact iW _ _ _ _ _ (by simp)
       case hone=>simp[Value.oneCell']
       case h63=>unfold maxLen;omega
       case hby=>omega
       case hbase=>simp<;>omega
       intro v' w9 aI gW
       have gL:∀j,(Value.slice o7 acc.length c7).ownBlock=some j→p+1≤j:=fun j hj=>(H8.out.2.2.lt j hj).1
       have gB:=(H8.out.1.below iK (ah (Below.refl _ _) (.cells #[.int .i32 qa,.int .i32 qc] 79))).grown (by simp<;>omega) gW (fun j hj=>by have:=gL j hj;omega)
       have tJ:CI w9 p L k' s.size (.slice ou L.length cu):=by
        have h1:=H8.out.2.1.moved (ah (Below.refl _ _) (.cells #[.int .i32 qa,.int .i32 qc] 79))
        have hblk:∀j,j<p+1→w9.heap[j]? = (w8.alloc (.cells #[.int .i32 qa,.int .i32 qc] 79)).heap[j]?:=fun j hj=>gW.block j (by simp;omega) (fun e=>by have:=gL j e.symm;omega)
        exact h1.low hblk (by have:=gW.size;simpa using this) (fun b off e=>(og.out b off e).1)
       obtain⟨o9,c9,rfl⟩:=au aI
       obtain⟨f',hnx⟩:=FV.out _ _ gB tJ aI
       have HN:=Lib.hid hnx
       clear gB tJ gW aI gL hnx
       go_wp2
       go_roundw
       case rel=>exact⟨_,_,_,by simp[lenOf],HN.out⟩
       case measure=>simp[lenOf]<;>omega
     · have hac : ((acc.length : Int) == 0) = false := beq_eq_false_iff_ne.2 (by omega)
       have wI:(acc.length == 0)=false:=beq_eq_false_iff_ne.2 (by omega)
       have hkk:decide ((k:Int)<(L.length:Int))=true:=by simp;omega
       have xY:decide (k<L.length)=true:=by simp;omega
       go_wp2_with fail
       go_quiet (fail)
       have dX:=HT.out.ci.drewN nq
       have bK:=HT.out.hold.ch (by have:=HT.out.lo;have:=HT.out.ci.lt;omega) gu (Ch.drewN p nq)
       have hown1:=dn HT.out.own nq
       generalize hwq:wo.drewN nq=wq at dX bK hown1 ⊢
       have H1:=Lib.hid (And.intro dX (And.intro bK hown1))
       clear hwq dX bK hown1 d0 d1 d2 g0 g1 g2
       go_wp2_with fail
       have dY:=iM p k s.size L _ _ H1.out.1 nk.out
       unfold jl at dY
       rw[HC.out] at dY
       have mF:=Lib.hid dY
       clear dY
       refine mF.out.mono ?_
       rintro e w8 ⟨rfl,jB,eO⟩
       have aZ:=H1.out.2.1.ch (by have:=HT.out.lo;have:=H1.out.1.lt;omega) gu eO
       have FQ:p<w8.heap.size:=jB.lt
       have fZ:w8.ownsRow (p+1) 79 2 (.slice o7 acc.length c7) acc.length (flatK .i32 acc):=by
        have h:=H1.out.2.2
        have hlt:=h.lt
        obtain⟨h1,⟨e1,e2⟩|⟨g,cap,cur,e1,hg,hb,hr⟩⟩:=h
        · exact⟨h1,.inl ⟨e1,e2⟩⟩
        · refine ⟨h1, .inr ⟨g, cap, cur, e1, hg, ?_, hr⟩⟩
          rw[eO.block g (by have:=(hlt g (by rw[e1];rfl)).2;omega) (by omega)];exact hb
       have iK:w.heap.size+1+1<w8.heap.size:=by have:=H1.out.1.lt;have:=eO.size;omega
       have H8:=Lib.hid (And.intro aZ (And.intro jB fZ))
       have hxs:acc.length≤100000:=by omega
       clear aZ eO jB fZ
       go_wp2_with (at_builtin;refine bB _ rfl _ _ 32 rfl (p+1) 79 ii (.agg #[.int .i32 0,.int .i32 0]) 2 8 Tryz.underlying32 hi hz0 hz1 hz2 rfl (by decide) (.slice o7 acc.length c7) acc.length (flatK .i32 acc) rfl ?hown _ 1 [.int .i32 qa,.int .i32 qc] rfl ?hrow rfl ?hone ?h63 ?hby ?hbase ?_)
       case hown=>exact H8.out.2.2.alloc _
       case hrow=>exact iW _ _ _ _ _ (by simp)
       case hone=>simp[Value.oneCell']
       case h63=>unfold maxLen;omega
       case hby=>omega
       case hbase=>simp<;>omega
       intro v' w9 aI gW
       have gL:∀j,(Value.slice o7 acc.length c7).ownBlock=some j→p+1≤j:=fun j hj=>(H8.out.2.2.lt j hj).1
       have gB:=(H8.out.1.below iK (ah (Below.refl _ _) (.cells #[.int .i32 qa,.int .i32 qc] 79))).grown (by simp<;>omega) gW (fun j hj=>by have:=gL j hj;omega)
       have tJ:CI w9 p L k' s.size (.slice ou L.length cu):=by
        have h1:=H8.out.2.1.moved (ah (Below.refl _ _) (.cells #[.int .i32 qa,.int .i32 qc] 79))
        have hblk:∀j,j<p+1→w9.heap[j]? = (w8.alloc (.cells #[.int .i32 qa,.int .i32 qc] 79)).heap[j]?:=fun j hj=>gW.block j (by simp;omega) (fun e=>by have:=gL j e.symm;omega)
        exact h1.low hblk (by have:=gW.size;simpa using this) (fun b off e=>(og.out b off e).1)
       obtain⟨o9,c9,rfl⟩:=au aI
       obtain⟨f',hnx⟩:=FV.out _ _ gB tJ aI
       have HN:=Lib.hid hnx
       clear gB tJ gW aI gL hnx
       go_wp2
       go_roundw
       case rel=>exact⟨_,_,_,by simp[lenOf],HN.out⟩
       case measure=>simp[lenOf]<;>omega
theorem Bg (s:ByteArray) (w:World) (hs:s.size≤100000) (hpl:Sc (all 0 (sb s))):Calls Tryz.prog 184 #[.string s] w (kY (all 0 (sb s)) s.size w):=by
 cases hb:decide (pk (all 0 (sb s)) 0=94) with
 | true=>exact KO s w hs hpl hb
 | false=>exact FW s w hs hpl hb
end Go.Proofs.YtfkmajjgkdjncaaGreatDoor
