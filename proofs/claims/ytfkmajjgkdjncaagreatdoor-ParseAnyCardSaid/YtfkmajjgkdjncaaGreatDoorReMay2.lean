/- Merged. -/
import Derived.Test.YtfkmajjgkdjncaaGreatDoorRuneMath4
import Derived.Test.YtfkmajjgkdjncaaGreatDoorChecked
import Derived.Test.YtfkmajjgkdjncaaGreatDoorProg
import Derived.Test.YtfkmajjgkdjncaaGreatDoorRows
import Derived.IntWalk
import Derived.WalkLawsBesides
import Derived.Laws.StructEq
import Derived.Laws.OwnMore
import Derived.Sort.Grow
import Derived.Deep.RegionHeld3
import Derived.RegionTactic
import Derived.Test.YtfkmajjgkdjncaaGreatDoorRe
import Derived.Test.YtfkmajjgkdjncaaGreatDoorCh
import Derived.Deep.LoopGhost
import Derived.WalkSpells
import Derived.Laws.EntriesVeiled
set_option linter.unusedVariables false
set_option linter.unusedSimpArgs false
set_option maxHeartbeats 8000000
set_option maxRecDepth 1000000
namespace Go.Proofs.YtfkmajjgkdjncaaGreatDoor
open Go.RowKit Ru
theorem mD:∃i,Tryz.prog.info? 79=some i∧i.zero=some (.agg #[.int .i32 0,.int .i32 0])∧i.size=2∧i.bytes=8:=info_parts (by kernel_rfl)
theorem dI {a b:Bool} (h:a=b):Ending.returned (.bool a)=.returned (.bool b):=by rw[h]
theorem eH {k:IntKind} {a b:Int} (h:a=b):Ending.returned (.int k a)=.returned (.int k b):=by rw[h]
theorem mJ {r:Int} (h:0≤r∧r≤1114111∧(r<55296∨57344≤r)):true=fM r:=((jZ r).2 h).symm
theorem mK {r:Int} (h:¬(0≤r∧r≤1114111∧(r<55296∨57344≤r))):false=fM r:=((F7 r).2 h).symm
theorem jW (r : Int) (w : World) : Calls Tryz.prog 165 #[.int .i32 r] w fun e w' => e = .returned (.bool (fM r)) ∧ w = w' := by
 go_enter Tryz.func165,Tryz.ntmps165
 by_cases h1:0≤r
 · by_cases h2 : r ≤ 1114111
   · by_cases h3 : r < 55296
     · go_wp2
       go_ret
       exact⟨dI (by first|exact mJ (by omega)|exact mK (by omega)),rfl⟩
     · by_cases h4 : 57344 ≤ r
       · go_wp2
         go_ret
         exact⟨dI (by first|exact mJ (by omega)|exact mK (by omega)),rfl⟩
       · go_wp2
         go_ret
         exact⟨dI (by first|exact mJ (by omega)|exact mK (by omega)),rfl⟩
   · go_wp2
     go_ret
     exact⟨dI (by first|exact mJ (by omega)|exact mK (by omega)),rfl⟩
 · go_wp2
   go_ret
   exact⟨dI (by first|exact mJ (by omega)|exact mK (by omega)),rfl⟩
theorem uM (r : Int) (w : World) (hr : -2147483648 ≤ r ∧ r ≤ 2147483647) : Calls Tryz.prog 166 #[.int .i32 r] w fun e w' => e = .returned (.int .i64 (aA r)) ∧ w = w' := by
 go_enter Tryz.func166,Tryz.ntmps166
 by_cases h1:r<0
 · go_wp2
   go_ret
   exact⟨eH (by unfold aA;(repeat' split)<;>omega),rfl⟩
 by_cases h2:r<55296
 · go_wp2
   go_ret
   exact⟨eH (by unfold aA;(repeat' split)<;>omega),rfl⟩
 by_cases h3:r<57344
 · go_wp2
   go_ret
   exact⟨eH (by unfold aA;(repeat' split)<;>omega),rfl⟩
 by_cases h4:r≤1114111
 · go_wp2
   go_ret
   exact⟨eH (by unfold aA;(repeat' split)<;>omega),rfl⟩
 · go_wp2
   go_ret
   exact⟨eH (by unfold aA;(repeat' split)<;>omega),rfl⟩
open Go.RowKit Ru Go.Sort
theorem Row.form {w:World} {v:Value} {n:Nat} {cs:List Value} (h:Row w v n cs):∃o c,v=.slice o n c:=by obtain⟨o,c,e,_⟩:=h;exact⟨o,c,e⟩
theorem pK {x:Int} (h : -9223372036854775808≤x∧x≤9223372036854775807):IntKind.i64.wrap x=x:=IntWalk.i64_in _ h
theorem vS (P:List Pc) (k:Nat) (h:k<P.length):aY (P.take (k+1))=aY (P.take k)++[(bW (P.getD k (0,0)).1,bW ((P.getD k (0,0)).2-1))]:=by
 rw[take_one P (0,0) k h];simp[aY]
theorem iB (P:List Pc):(aY P).length=P.length:=by simp[aY]
theorem Nh (w:World) (u v:Value) (e:TypeId) (B:Nat) (hB:w.heap.size=B):Row (w.alloc (.cells #[u,v] e)).drew (.slice (some ⟨B,0,none⟩) 1 1) 1 [u,v]:=by
 subst hB
 refine⟨_,_,rfl,Nat.le_refl _,by decide,.inr ⟨w.heap.size,0,rfl,by simp,fun j x hx=>?_⟩⟩
 rw[Nat.zero_add,World.cell?_drew,World.cell?_alloc_mark]
 simpa using hx
theorem iW (w:World) (u v:Value) (e:TypeId) (B:Nat) (hB:w.heap.size=B):Row (w.alloc (.cells #[u,v] e)) (.slice (some ⟨B,0,none⟩) 1 1) 1 [u,v]:=by
 subst hB
 refine⟨_,_,rfl,Nat.le_refl _,by decide,.inr ⟨w.heap.size,0,rfl,by simp,fun j x hx=>?_⟩⟩
 rw[Nat.zero_add,World.cell?_alloc_mark]
 simpa using hx
theorem xD (l:List Pc) (k:Nat) (h:k<l.length):raw (l.take (k+1))=raw (l.take k)++if (bJ (l.getD k (0,0))).1<(bJ (l.getD k (0,0))).2 then [bJ (l.getD k (0,0))] else []:=by
 rw[take_one l (0,0) k h]
 unfold raw
 rw[List.map_append,List.filter_append]
 congr 1
 by_cases h:(bJ (l.getD k (0,0))).1<(bJ (l.getD k (0,0))).2<;>simp only[List.map_cons,List.map_nil,List.filter_cons,List.filter_nil,h,decide_true,decide_false,if_true,if_false]<;>simp
theorem xL (l:List Pc):(raw l).length≤l.length:=by
 unfold raw
 have:=List.length_filter_le (fun p:Pc=>decide (p.1<p.2)) (l.map bJ)
 simpa using this
theorem dn {w:World} {base:Nat} {e:TypeId} {size n:Nat} {v:Value} {xs:List Value} (h:w.ownsRow base e size v n xs) (q:Nat):(w.drewN q).ownsRow base e size v n xs:=bS h (below_drewN (Below.refl _ _) q)
def sK (l:List (Int×Int)):Prop:=∀p∈l,(-2147483648≤p.1∧p.1≤2147483647)∧(-2147483648≤p.2∧p.2≤2147483647)
theorem zL (r : Int) (w : World) (hr : -2147483648 ≤ r ∧ r ≤ 2147483647) : Calls Tryz.prog 166 #[.int .i32 r] w fun e w' => e = .returned (.int .i64 (aA r)) ∧ w' = w :=
 (uM r w hr).mono fun _ _ h=>⟨h.1,h.2.symm⟩
def Lb (l:List Pc) (i:Nat):Prop:=tN (l.getD i (0,0))=true∧(0<i→aA (l.getD (i-1) (0,0)).2+1<aA (l.getD i (0,0)).1)
theorem XF {l:List Pc} (h:∀i,i<l.length→Lb l i):qy l=true:=(wK l).2 h
theorem EI {l:List Pc} (i:Nat) (hi:i<l.length) (h:¬Lb l i):qy l=false:=by
 cases e:qy l with
 | false=>rfl
 | true=>exact absurd ((wK l).1 e i hi) h
theorem PO (l:List Pc) (v:Value) (w:World) (hr:Row w v l.length (flatK .i32 l)) (hz:sK l) (hn:l.length≤1000000) :
 Calls Tryz.prog 145 #[v] w fun e w'=>e=.returned (.bool (qy l))∧Below w.heap.size w w':=by
 have Hr:=Lib.hid hr
 have Hz:=Lib.hid hz
 obtain⟨o,cap,rfl⟩:=hr.form
 clear hr hz
 go_enter Tryz.func145,Tryz.ntmps145
 go_wp2_with fail
 go_loopw [7] (fun i wr => ∃ k : Nat, k ≤ l.length ∧ i = .int .i64 k ∧ Below w.heap.size w wr ∧ ∀ j, j < k → Lb l j)
  (fun i _=>l.length-(intOf i).toNat)
 case atStart=>exact⟨0,Nat.zero_le _,rfl,Below.refl _ _,fun j hj=>by omega⟩
 case round=>
  obtain⟨k,hk,rfl,hbel,hall⟩:=hrel
  have HA:=Lib.hid hall
  clear hall
  by_cases hk2:k<l.length
  · obtain ⟨b, off, cap', e, PS⟩ := Hr.out.head (by omega)
    simp only[Value.slice.injEq,true_and] at e
    obtain⟨rfl,rfl⟩:=e
    obtain⟨_,c1,c2⟩:=Hr.out.pair hk2 rfl
    rw[←hbel.cell PS] at c1 c2
    obtain⟨q,hq⟩:∃q,q=l.getD k (0,0):=⟨_,rfl⟩
    have hq1:=(Hz.out q (by rw[hq];simp[List.getD,List.getElem?_eq_getElem hk2])).1
    have hq2:=(Hz.out q (by rw[hq];simp[List.getD,List.getElem?_eq_getElem hk2])).2
    rw[←hq] at c1 c2
    obtain⟨lo,hi'⟩:=q
    simp only at c1 c2 hq1 hq2
    have Hq:=Lib.hid (And.intro hq hbel)
    clear hq hbel
    have hbad : ∀ {P : Prop}, tN (lo, hi') = false → (Lb l k → P) := fun h1 h2 => by
     have:=h2.1;rw[←Hq.out.1,h1] at this;cases this
    by_cases h1:lo≤hi'
    · by_cases h2 : fM lo = true
      · by_cases h3 : fM hi' = true
        · have hok : tN (lo, hi') = true := by simp [tN, h1, h2, h3]
          have Ua:=Lib.hid hok
          clear hok hbad
          by_cases hk0:k=0
          · have hg1 : decide (0 < k) = false := by simp [hk0]
            have hg2:decide ((0:Int)<(k:Int))=false:=by simp[hk0]
            have HK:=Lib.hid hk0
            clear hk0
            go_wp2_with (go_at_call 165;refine(jW _ _).mono ?_;rintro e w' ⟨rfl,rfl⟩)
            go_quiet (fail)
            go_wp2
            go_roundw
            case rel=>
             refine⟨k+1,by omega,by go_num,by have:=Hq.out.2;repeat (first|exact Below.refl _ _|assumption|(refine Below.drew ?_)|(refine below_drewN ?_ _)|(refine ah ?_ _)|(refine ak ?_ (by assumption))),fun j hj=>?_⟩
             by_cases e:j=k
             · subst e;exact⟨by rw[←Hq.out.1];exact Ua.out,fun h=>by have:=HK.out;omega⟩
             · exact HA.out j (by omega)
            case measure=>simp[intOf]<;>omega
          · obtain ⟨j, rfl⟩ : ∃ j, k = j + 1 := ⟨k - 1, by omega⟩
            obtain⟨_,_,d2⟩:=Hr.out.pair (i:=j) (by omega) rfl
            rw[←Hq.out.2.cell PS] at d2
            obtain⟨q',hq'⟩:∃q',q'=l.getD j (0,0):=⟨_,rfl⟩
            have hq3:=(Hz.out q' (by rw[hq'];simp[List.getD,List.getElem?_eq_getElem (show j<l.length by omega)])).2
            rw[←hq'] at d2
            obtain⟨plo,phi⟩:=q'
            simp only at d2 hq3
            have Yx:=Lib.hid hq'
            have hp1:=mH lo
            have hp2:=mH phi
            have hw1:IntKind.i64.wrap (j:Int)=(j:Int):=pK (by omega)
            have hw2:IntKind.i64.wrap (aA phi+1)=aA phi+1:=pK (by omega)
            have hj0:(0:Int)≤(j:Int):=by omega
            have hj1:(j:Int)<(l.length:Int):=by omega
            have hj2:(0:Int)<(j:Int)+1:=by omega
            have hbw:b<wr.heap.size:=Nat.lt_of_lt_of_le PS Hq.out.2.size
            clear hq' hk0 hk
            by_cases abq:aA lo≤aA phi+1
            · have HF := Lib.hid (EI (j + 1) hk2 (fun h => by
               have:=h.2 (by omega)
               rw[←Hq.out.1,show j+1-1=j by omega,←Yx.out] at this
               simp only at this;omega))
              go_wp2_with (go_at_call 165;refine(jW _ _).mono ?_;rintro e w' ⟨rfl,rfl⟩)
              go_quiet ((go_at_call 166;exact Calls.quiet_of_same (zL _ _ (by assumption))))
              clear hw1 hw2
              go_wp2
              go_ret
              exact⟨by rw[HF.out];rfl,by have:=Hq.out.2;repeat (first|exact Below.refl _ _|assumption|(refine Below.drew ?_)|(refine below_drewN ?_ _)|(refine ah ?_ _)|(refine ak ?_ (by assumption)))⟩
            · have HG := Lib.hid (show aA phi + 1 < aA lo by omega)
              go_wp2_with (go_at_call 165;refine(jW _ _).mono ?_;rintro e w' ⟨rfl,rfl⟩)
              go_quiet ((go_at_call 166;exact Calls.quiet_of_same (zL _ _ (by assumption))))
              clear hw1 hw2
              go_wp2
              go_roundw
              case rel=>
               refine⟨j+1+1,by omega,by go_num,by have:=Hq.out.2;repeat (first|exact Below.refl _ _|assumption|(refine Below.drew ?_)|(refine below_drewN ?_ _)|(refine ah ?_ _)|(refine ak ?_ (by assumption))),fun i hi=>?_⟩
               by_cases e:i=j+1
               · subst e;exact⟨by rw[←Hq.out.1];exact Ua.out,fun _=>by rw[←Hq.out.1,show j+1-1=j by omega,←Yx.out];exact HG.out⟩
               · exact HA.out i (by omega)
              case measure=>simp[intOf]<;>omega
        · have h3' : fM hi' = false := by simpa using h3
          have HF:=Lib.hid (EI k hk2 (hbad (P:=False) (by simp[tN,h1,h2,h3'])))
          clear hbad h3
          go_wp2_with (go_at_call 165;refine(jW _ _).mono ?_;rintro e w' ⟨rfl,rfl⟩)
          go_ret
          exact⟨by rw[HF.out];rfl,by have:=Hq.out.2;repeat (first|exact Below.refl _ _|assumption|(refine Below.drew ?_)|(refine below_drewN ?_ _)|(refine ah ?_ _)|(refine ak ?_ (by assumption)))⟩
      · have h2' : fM lo = false := by simpa using h2
        have HF:=Lib.hid (EI k hk2 (hbad (P:=False) (by simp[tN,h1,h2'])))
        clear hbad h2
        go_wp2_with (go_at_call 165;refine(jW _ _).mono ?_;rintro e w' ⟨rfl,rfl⟩)
        go_ret
        exact⟨by rw[HF.out];rfl,by have:=Hq.out.2;repeat (first|exact Below.refl _ _|assumption|(refine Below.drew ?_)|(refine below_drewN ?_ _)|(refine ah ?_ _)|(refine ak ?_ (by assumption)))⟩
    · have HF := Lib.hid (EI k hk2 (hbad (P := False) (by simp [tN]; omega)))
      clear hbad
      go_wp2
      go_ret
      exact⟨by rw[HF.out];rfl,by have:=Hq.out.2;repeat (first|exact Below.refl _ _|assumption|(refine Below.drew ?_)|(refine below_drewN ?_ _)|(refine ah ?_ _)|(refine ak ?_ (by assumption)))⟩
  · have hkn : k = l.length := by omega
    subst hkn
    go_wp2
    go_ret
    exact⟨by rw[XF HA.out];rfl,hbel⟩
namespace RE
def iN (e:RE):Bool:=
 if e.kind=2 then decide (1≤e.set.length) && (decide (e.set.length≤20) && (qy e.set && decide (e.parts.length=0)))
 else if 0<e.set.length then false
 else if e.kind=0∨e.kind=1 then decide (e.parts.length=0)
 else if e.kind=5 then decide (e.parts.length=1)
 else if e.kind=3∨e.kind=4 then decide (e.parts.length=2)
 else false
inductive Fit:RE→Prop
 | mk (k:Int) (s:List (Int×Int)) (l:List RE) (hs:sK s) (hn:s.length≤1000) (hl:l.length≤1000) (h:∀(i:Nat) (e:RE),l[i]? = some e→Fit e):Fit (.mk k s l)
theorem Fit.sets {e:RE} (h:Fit e):sK e.set∧e.set.length≤1000∧e.parts.length≤1000:=by cases h;exact⟨by assumption,by assumption,by assumption⟩
theorem Fit.part {e p:RE} {i:Nat} (h:Fit e) (hp:e.parts[i]? = some p):Fit p:=by cases h with|mk k s l hs hn hl h=>exact h i p hp
mutual
def vis:RE→Nat→Nat→Bool×Nat
 | .mk k s l,n,deep=>if 60<n+1∨12<deep∨iN (.mk k s l)=false then (false,n+1) else eZ l (n+1) (deep+1)
def eZ:List RE→Nat→Nat→Bool×Nat
 | [],n,_=>(true,n)
 | e::l,n,deep=>if (vis e n deep).1=true then eZ l (vis e n deep).2 deep else (false,(vis e n deep).2)
end
theorem vR (e:RE) (n deep:Nat):vis e n deep=if 60<n+1∨12<deep∨iN e=false then (false,n+1) else eZ e.parts (n+1) (deep+1):=by cases e;rw[vis];rfl
theorem tV (n deep:Nat):eZ [] n deep=(true,n):=by rw[eZ]
theorem oH (e:RE) (l:List RE) (n deep:Nat):eZ (e::l) n deep=if (vis e n deep).1=true then eZ l (vis e n deep).2 deep else (false,(vis e n deep).2):=by rw[eZ]
def may (e:RE):Bool:=(vis e 0 1).1
end RE
theorem GL (e:RE) (sv lv:Value) (w:World) (h:bI w e sv lv) (hf:e.Fit) :
 Calls Tryz.prog 127 #[.agg #[.int .i64 e.kind,sv,lv]] w fun x w'=>x=.returned (.bool e.iN)∧Below w.heap.size w w':=by
 obtain⟨⟨o1,q1,rfl⟩,⟨o2,q2,rfl⟩⟩:=h.form
 have hF:=hf.sets
 have hs:=h.set
 have dS:e.iN=if e.kind=2 then decide (1≤e.set.length) && (decide (e.set.length≤20) && (qy e.set && decide (e.parts.length=0)))
  else if 0<e.set.length then false
  else if e.kind=0∨e.kind=1 then decide (e.parts.length=0)
  else if e.kind=5 then decide (e.parts.length=1)
  else if e.kind=3∨e.kind=4 then decide (e.parts.length=2)
  else false:=rfl
 obtain⟨k,hk⟩:∃k,k=e.kind:=⟨_,rfl⟩
 obtain⟨s,hs0⟩:∃s,s=e.set:=⟨_,rfl⟩
 obtain⟨m,hm⟩:∃m,m=e.parts.length:=⟨_,rfl⟩
 have hmay:=fun w' (hb:Below w.heap.size w w')=>PO s (.slice o1 s.length q1) w' (by rw[hs0];exact hs.below hb) (by rw[hs0];exact hF.1) (by rw[hs0];omega)
 rw[←hk,←hs0,←hm] at dS
 have hl1:s.length≤1000:=by rw[hs0];omega
 have hl2:m≤1000:=by omega
 rw[←hk,←hs0,←hm]
 obtain⟨mb,hmb⟩:∃mb,mb=qy s:=⟨_,rfl⟩
 rw[←hmb] at dS hmay
 obtain⟨n,hn⟩:∃n,n=s.length:=⟨_,rfl⟩
 rw[←hn] at dS hmay hl1 ⊢
 obtain⟨r,hr⟩:∃r,r=e.iN:=⟨_,rfl⟩
 rw[←hr] at dS ⊢
 have HM:=Lib.hid hmay
 clear hmay hn hmb hr hs hF hf h hk hs0 hm
 by_cases k2:k=2
 · rw [if_pos k2] at dS
   subst k2
   by_cases n1:1≤n
   · by_cases n2 : n ≤ 20
     · have HS := Lib.hid dS
       have d1:decide ((1:Int)≤(n:Int))=true:=by simp;omega
       have d2:decide ((n:Int)≤20)=true:=by simp;omega
       have g1:decide (1≤n)=true:=by simpa using n1
       have g2:decide (n≤20)=true:=by simpa using n2
       cases hb:mb with
       | true =>
        rw[hb] at HM HS
        have HX:=Lib.hid (show r=decide (m=0) by have:=HS.out;rw[g1,g2] at this;simpa using this)
        clear HS dS
        go_enter Tryz.func127,Tryz.ntmps127
        go_wp2_with fail
        refine(HM.out _ (ah (Below.refl _ _) _)).mono ?_
        rintro x w1 ⟨rfl,hb1⟩
        have c0:w1.cell? ⟨w.heap.size,2,none⟩=some (.slice o2 m q2):=cell_later hb1 (by simp[go_sem])
        have HB:=Lib.hid (ak (ah (Below.refl _ _) _) hb1)
        clear hb1
        go_wp2_with fail
        go_ret
        exact⟨by rw[HX.out];by_cases h0:m=0<;>simp[h0],HB.out⟩
       | false =>
        rw[hb] at HM HS
        have HX:=Lib.hid (show r=false by have:=HS.out;simpa using this)
        clear HS dS
        go_enter Tryz.func127,Tryz.ntmps127
        go_wp2_with fail
        refine(HM.out _ (ah (Below.refl _ _) _)).mono ?_
        rintro x w1 ⟨rfl,hb1⟩
        have HB:=Lib.hid (ak (ah (Below.refl _ _) _) hb1)
        clear hb1
        go_wp2_with fail
        go_ret
        exact⟨by rw[HX.out];rfl,HB.out⟩
     · have d1 : decide ((1 : Int) ≤ (n : Int)) = true := by simp; omega
       have d2:decide ((n:Int)≤20)=false:=by simp;omega
       have g2:decide (n≤20)=false:=by simpa using n2
       have HX:=Lib.hid (show r=false by rw[dS,g2];simp)
       clear dS
       go_enter Tryz.func127,Tryz.ntmps127
       go_wp2_with fail
       go_ret
       exact⟨by rw[HX.out];rfl,ah (Below.refl _ _) _⟩
   · have d1 : decide ((1 : Int) ≤ (n : Int)) = false := by simp; omega
     have g1:decide (1≤n)=false:=by simpa using n1
     have HX:=Lib.hid (show r=false by rw[dS,g1];simp)
     clear dS
     go_enter Tryz.func127,Tryz.ntmps127
     go_wp2_with fail
     go_ret
     exact⟨by rw[HX.out];rfl,ah (Below.refl _ _) _⟩
 · rw [if_neg k2] at dS
   have e2:(k == 2)=false:=by simpa using k2
   by_cases n0:0<n
   · have d0 : decide ((0 : Int) < (n : Int)) = true := by simp; omega
     have HX:=Lib.hid (show r=false by rw[dS,if_pos n0])
     clear dS
     go_enter Tryz.func127,Tryz.ntmps127
     go_wp2_with fail
     go_ret
     exact⟨by rw[HX.out];rfl,ah (Below.refl _ _) _⟩
   · have d0 : decide ((0 : Int) < (n : Int)) = false := by simp; omega
     rw[if_neg n0] at dS
     have hz:n=0:=by omega
     subst hz
     by_cases a0:k=0
     · subst a0
       have HX:=Lib.hid (show r=decide (m=0) by rw[dS];simp)
       clear dS
       go_enter Tryz.func127,Tryz.ntmps127
       go_wp2_with fail
       go_ret
       exact⟨by rw[HX.out];by_cases h0:m=0<;>simp[h0],ah (Below.refl _ _) _⟩
     by_cases a1:k=1
     · subst a1
       have HX:=Lib.hid (show r=decide (m=0) by rw[dS];simp)
       clear dS
       go_enter Tryz.func127,Tryz.ntmps127
       go_wp2_with fail
       go_ret
       exact⟨by rw[HX.out];by_cases h0:m=0<;>simp[h0],ah (Below.refl _ _) _⟩
     by_cases a5:k=5
     · subst a5
       have HX:=Lib.hid (show r=decide (m=1) by rw[dS];simp)
       clear dS
       go_enter Tryz.func127,Tryz.ntmps127
       go_wp2_with fail
       go_ret
       exact⟨by rw[HX.out];by_cases h0:m=1<;>simp[h0]<;>omega,ah (Below.refl _ _) _⟩
     by_cases a3:k=3
     · subst a3
       have HX:=Lib.hid (show r=decide (m=2) by rw[dS];simp)
       clear dS
       go_enter Tryz.func127,Tryz.ntmps127
       go_wp2_with fail
       go_ret
       exact⟨by rw[HX.out];by_cases h0:m=2<;>simp[h0]<;>omega,ah (Below.refl _ _) _⟩
     by_cases a4:k=4
     · subst a4
       have HX:=Lib.hid (show r=decide (m=2) by rw[dS];simp)
       clear dS
       go_enter Tryz.func127,Tryz.ntmps127
       go_wp2_with fail
       go_ret
       exact⟨by rw[HX.out];by_cases h0:m=2<;>simp[h0]<;>omega,ah (Below.refl _ _) _⟩
     have HX:=Lib.hid (show r=false by rw[dS,if_neg (by omega),if_neg a5,if_neg (by omega)])
     have b0:(k == 0)=false:=by simpa using a0
     have b1:(k == 1)=false:=by simpa using a1
     have b3:(k == 3)=false:=by simpa using a3
     have b4:(k == 4)=false:=by simpa using a4
     have b5:(k == 5)=false:=by simpa using a5
     clear dS
     go_enter Tryz.func127,Tryz.ntmps127
     go_wp2_with fail
     go_ret
     exact⟨by rw[HX.out];rfl,ah (Below.refl _ _) _⟩
theorem EA (n:Nat) (o:Option Addr) (cap:Nat) (cap0 qB:Value) (c0 c1 c2:Nat→Value) (St:Nat→World→Prop) (Fin:Nat→World→Prop) (w:World) (hn:n≤1000000)
 (hel:∀i,i<n→∃b off,o=some ⟨b,off,none⟩∧∀w',St i w'→w'.cell? ⟨b,off+i*3,none⟩=some (c0 i)∧w'.cell? ⟨b,off+i*3+1,none⟩=some (c1 i)∧w'.cell? ⟨b,off+i*3+2,none⟩=some (c2 i))
 (hf:∀i w',i<n→St i w'→Calls Tryz.prog 129 #[.agg #[c0 i,c1 i,c2 i],cap0,qB] w' fun e w''=>(e=.returned (.bool true)∧Fin i w'')∨(e=.returned (.bool false)∧St (i+1) w''))
 (h0:St 0 w) :
 Calls Tryz.prog 146 #[.slice o n cap,.func (Fn.func 129) #[] #[cap0,qB]] w fun e w'=>(∃i:Nat,i<n∧e=.returned (.int .i64 i)∧Fin i w')∨(e=.returned (.int .i64 (-1))∧St n w'):=by
 have mF:=Lib.hid hel
 have HF:=Lib.hid hf
 clear hel hf
 go_enter Tryz.func146,Tryz.ntmps146
 go_wp2_with fail
 go_loopg [8] n (fun g i wx=>∃k:Nat,k+g=n∧i=.int .i64 k∧St k wx)
 case atStart=>exact⟨0,by omega,rfl,h0⟩
 case round=>
  obtain⟨k,hkg,rfl,hSt⟩:=hrel
  obtain⟨wo,rfl⟩:∃wo:World,wo=wr:=⟨_,rfl⟩
  cases gk with
  | zero =>
   obtain rfl:k=n:=by omega
   have hd:decide ((k:Int)<(k:Int))=false:=by simp
   have HS:=Lib.hid hSt
   clear hSt
   go_wp2
   go_ret
   exact .inr ⟨rfl,HS.out⟩
  | succ g =>
   have hk:k<n:=by omega
   have hd:decide ((k:Int)<(n:Int))=true:=by simp;omega
   have hk1:(0:Int)≤(k:Int):=by omega
   have hk2:(k:Int)<(n:Int):=by omega
   have jC:(k:Int)≤1000000:=by omega
   obtain⟨b,off,rfl,hcell⟩:=mF.out k hk
   obtain⟨k0,k1,k2⟩:=hcell wo hSt
   have hc:=HF.out k wo hk hSt
   obtain⟨d0,hd0⟩:∃d,d=c0 k:=⟨_,rfl⟩
   rw[←hd0] at k0 hc
   clear hd0
   obtain⟨d1,hd1⟩:∃d,d=c1 k:=⟨_,rfl⟩
   rw[←hd1] at k1 hc
   clear hd1
   obtain⟨d2,hd2⟩:∃d,d=c2 k:=⟨_,rfl⟩
   rw[←hd2] at k2 hc
   clear hd2
   have HC:=Lib.hid hc
   clear hcell hSt hc
   go_wp2_with fail
   refine HC.out.mono ?_
   rintro e w2 (⟨rfl,hfin⟩|⟨rfl,hst⟩)
   · have HX := Lib.hid hfin
     clear hfin
     go_wp2
     go_ret
     exact .inl ⟨k,hk,rfl,HX.out⟩
   · have HX := Lib.hid hst
     clear hst
     go_wp2
     go_roundg g
     case measure=>omega
     case rel=>exact⟨k+1,by omega,by go_num,HX.out⟩
theorem Ay (n:Nat) (o:Option Addr) (cap:Nat) (cap0 qB:Value) (c0 c1 c2:Nat→Value) (St:Nat→World→Prop) (Fin:Nat→World→Prop) (w:World) (hn:n≤1000000)
 (hel:∀i,i<n→∃b off,o=some ⟨b,off,none⟩∧∀w',St i w'→w'.cell? ⟨b,off+i*3,none⟩=some (c0 i)∧w'.cell? ⟨b,off+i*3+1,none⟩=some (c1 i)∧w'.cell? ⟨b,off+i*3+2,none⟩=some (c2 i))
 (hf:∀i w',i<n→St i w'→Calls Tryz.prog 129 #[.agg #[c0 i,c1 i,c2 i],cap0,qB] w' fun e w''=>(e=.returned (.bool true)∧Fin i w'')∨(e=.returned (.bool false)∧St (i+1) w''))
 (h0:St 0 w) :
 Calls Tryz.prog 128 #[.slice o n cap,.func (Fn.func 129) #[] #[cap0,qB]] w fun e w'=>(∃i:Nat,i<n∧e=.returned (.bool true)∧Fin i w')∨(e=.returned (.bool false)∧St n w'):=by
 have hc:=EA n o cap cap0 qB c0 c1 c2 St Fin w hn hel hf h0
 have HC:=Lib.hid hc
 clear hc hf hel
 go_enter Tryz.func128,Tryz.ntmps128
 go_wp2_with fail
 refine HC.out.mono ?_
 rintro e w2 (⟨i,hi,rfl,hfin⟩|⟨rfl,hst⟩)
 · have HX := Lib.hid hfin
   have hi0:decide ((0:Int)≤(i:Int))=true:=by simp
   have hi9:(i:Int)≤1000000:=by omega
   clear hfin
   go_wp2
   go_ret
   exact .inl ⟨i,hi,rfl,HX.out⟩
 · have HX := Lib.hid hst
   clear hst
   go_wp2
   go_ret
   exact .inr ⟨rfl,HX.out⟩
theorem bI.all {w:World} {e:RE} {sv lv:Value} (h:bI w e sv lv):∃(o:Option Addr) (cap:Nat) (c1 c2:Nat→Value),lv=.slice o e.parts.length cap ∧
 ∀(i:Nat) (p:RE),e.parts[i]? = some p→bI w p (c1 i) (c2 i)∧∃b off,o=some ⟨b,off,none⟩∧b<w.heap.size∧w.cell? ⟨b,off+i*3,none⟩=some (.int .i64 p.kind)∧w.cell? ⟨b,off+i*3+1,none⟩=some (c1 i)∧w.cell? ⟨b,off+i*3+2,none⟩=some (c2 i):=by
 cases h with
 | mk k s l sv lv ps hs hl hn hk ih =>
  have hl2:=hl
  obtain⟨o,cap,rfl,_⟩:=hl2
  refine⟨o,cap,fun i=>(ps.getD i (0,.nilIface,.nilIface)).2.1,fun i=>(ps.getD i (0,.nilIface,.nilIface)).2.2,rfl,fun i p hp=>?_⟩
  have hi:i<l.length:=(List.getElem?_eq_some_iff.1 hp).1
  obtain⟨b,off,cap',e,hb,hc⟩:=hl.cells' (by omega)
  simp only[Value.slice.injEq,true_and] at e
  obtain⟨rfl,rfl⟩:=e
  obtain⟨q,hq⟩:∃q,ps[i]? = some q:=⟨ps[i],List.getElem?_eq_getElem (by omega)⟩
  have hd:ps.getD i (0,.nilIface,.nilIface)=q:=by rw[List.getD,hq];rfl
  have g:=FC ps i q hq
  show bI w p (ps.getD i (0,.nilIface,.nilIface)).2.1 (ps.getD i (0,.nilIface,.nilIface)).2.2∧_
  simp only[hd]
  refine⟨ih i p q hp hq,b,off,rfl,hb,?_,?_,?_⟩
  · rw[hk i p q hp hq];exact hc _ _ g.1
  · have:=hc _ _ g.2.1;simpa [Nat.add_assoc] using this
  · have:=hc _ _ g.2.2;simpa [Nat.add_assoc] using this
theorem RE.Dl:∀(N:Nat) (e:RE),e.size≤N→∀n d,(e.vis n d).1=true→(e.vis n d).2≤60:=by
 intro N
 induction N with
 | zero=>intro e h;have:=e.size_pos;omega
 | succ N ih =>
  intro e hs n d h
  rw[RE.vR] at h ⊢
  split at h
  · cases h
  · rename_i hc
    rw[if_neg hc]
    have hn:n+1≤60:=by omega
    have hp:∀(i:Nat) (p:RE),e.parts[i]? = some p→p.size≤N:=fun i p hp=>by have:=RE.jT hp;omega
    have:∀(l:List RE) (m:Nat),(∀p∈l,p.size≤N)→m≤60→(RE.eZ l m (d+1)).1=true→(RE.eZ l m (d+1)).2≤60:=by
     intro l
     induction l with
     | nil=>intro m _ hm _;rw[RE.tV];exact hm
     | cons a l ihl =>
      intro m hl hm h
      rw[RE.oH] at h ⊢
      split at h
      · rename_i ha
        rw[if_pos ha]
        exact ihl _ (fun p hp=>hl p (by simp[hp])) (ih a (hl a (by simp)) m (d+1) ha) h
      · cases h
    exact this e.parts (n+1) (fun p hpm=>by obtain⟨i,hi,rfl⟩:=List.getElem_of_mem hpm;exact hp i _ (List.getElem?_eq_getElem hi)) hn h
abbrev Ni (qn qv:Nat):Value:=.func (Fn.func 126) #[] #[.pointer (some ⟨qn,0,none⟩),.pointer (some ⟨qv,0,none⟩)]
structure qX (w0 w:World) (qn qv n:Nat):Prop where
 aV:Below w0.heap.size w0 w
 cn:w.heap[qn]? = some (.cells #[.int .i64 n] 3 (0,0))
 cv:w.heap[qv]? = some (.cells #[Ni qn qv] 169 (0,0))
 ln:w0.heap.size≤qn
 lv:w0.heap.size≤qv
 ne:qn≠qv
theorem qX.go {w0 w w':World} {qn qv n m:Nat} (h:qX w0 w qn qv n) (hc:Ch w w' qn) (hn:w'.heap[qn]? = some (.cells #[.int .i64 m] 3 (0,0))):qX w0 w' qn qv m:=
 ⟨hc.after h.aV h.ln,hn,hc.get h.cv (fun e=>h.ne e.symm),h.ln,h.lv,h.ne⟩
theorem qX.moved {w0 w w':World} {qn qv n:Nat} (h:qX w0 w qn qv n) (hb:Below w.heap.size w w'):qX w0 w' qn qv n:=h.go (Ch.of hb) (aB hb h.cn)
def wR (w0:World) (e:RE) (qn qv n deep:Nat) (w:World) (x:Ending) (w':World):Prop:=
 x=.returned (.bool (e.vis n deep).1)∧qX w0 w' qn qv (e.vis n deep).2∧Ch w w' qn
def Yy (w0:World) (N qn qv:Nat):Prop:=∀(e:RE) (sv lv:Value) (n deep:Nat) (w:World),e.size≤N→e.Fit→bI w0 e sv lv→qX w0 w qn qv n→n≤1000→deep≤1000 →
 Calls Tryz.prog 126 #[.agg #[.int .i64 e.kind,sv,lv],.int .i64 deep,.pointer (some ⟨qn,0,none⟩),.pointer (some ⟨qv,0,none⟩)] w (wR w0 e qn qv n deep w)
theorem Lc (w0:World) (N qn qv qd:Nat) (ih:Yy w0 N qn qv) (e:RE) (sv lv:Value) (n deep:Nat) (w:World) (hs:e.size≤N) (hf:e.Fit) (hr:bI w0 e sv lv) (hv:qX w0 w qn qv n) (hn:n≤1000) (hd:deep≤999)
 (hq:w.heap[qd]? = some (.cells #[.int .i64 deep] 3 (0,0))) :
 Calls Tryz.prog 129 #[.agg #[.int .i64 e.kind,sv,lv],.pointer (some ⟨qv,0,none⟩),.pointer (some ⟨qd,0,none⟩)] w fun x w'=>
  x=.returned (.bool (!(e.vis n (deep+1)).1))∧qX w0 w' qn qv (e.vis n (deep+1)).2∧Ch w w' qn:=by
 obtain⟨⟨o1,q1,rfl⟩,⟨o2,q2,rfl⟩⟩:=hr.form
 have hc:=fun w' (hv':qX w0 w' qn qv n)=>ih e _ _ n (deep+1) w' hs hf hr hv' hn (by omega)
 obtain⟨rb,hrb⟩:∃rb,rb=(e.vis n (deep+1)).1:=⟨_,rfl⟩
 unfold wR at hc
 rw[←hrb] at hc ⊢
 have hw1:(deep:Int)+1=((deep+1:Nat):Int):=by omega
 have hdz:(deep:Int)≤999:=by omega
 obtain⟨c0,f0⟩:=aj hv.cv
 unfold Ni at c0
 have hlv:=dK hv.cv
 obtain⟨c1,f1⟩:=aj hq
 have hld:=dK hq
 have HC:=Lib.hid hc
 have HV:=Lib.hid hv
 have HW:=Lib.hid hw1
 clear hc hv hq hr ih hrb hw1
 go_enter Tryz.func129,Tryz.ntmps129
 go_wp2_with fail
 rw[show(Value.int .i64 ((deep:Int)+1))=.int .i64 ((deep+1:Nat):Int) by rw[HW.out]]
 refine(HC.out _ (HV.out.moved (ah (Below.refl _ _) _))).mono ?_
 rintro x w2 ⟨rfl,hv2,hc2⟩
 have HX:=Lib.hid (And.intro hv2 ((Ch.new w _ qn).trans hc2))
 clear hv2 hc2
 go_wp2
 go_ret
 exact⟨rfl,HX.out.1,HX.out.2⟩
theorem Nj (w0:World) (qn qv:Nat):∀N,Yy w0 N qn qv:=by
 intro N
 induction N with
 | zero=>intro e sv lv n deep w hs;have:=e.size_pos;omega
 | succ N ih =>
  intro e sv lv n deep w hs hf hr hv hn hd
  obtain⟨⟨o1,q1,rfl⟩,-⟩:=hr.form
  obtain⟨o2,q2,c1,c2,rfl,hall⟩:=hr.all
  have hm1:=hf.sets
  have tX:=e.vR n deep
  have qR:=dK hv.cn
  have OJ:=dK hv.cv
  obtain⟨cn0,fn0⟩:=aj hv.cn
  obtain⟨nL,hW0⟩:∃nL,nL=w.setCell ⟨qn,0,none⟩ (.int .i64 ((n+1:Nat):Int)):=⟨_,rfl⟩
  have hsz0:nL.heap.size=w.heap.size:=by rw[hW0];simp[World.setCell]
  have hc0:Ch w nL qn:=by rw[hW0];exact Ch.set _ _ _ _
  have hv0:qX w0 nL qn qv (n+1):=hv.go hc0 (by rw[hW0];exact mg hv.cn _)
  obtain⟨W2,hW2⟩:∃W2,W2=(nL.alloc (.cells #[.int .i64 e.kind,.slice o1 e.set.length q1,.slice o2 e.parts.length q2] 35)).alloc (.cells #[.int .i64 deep] 3):=⟨_,rfl⟩
  have hb2:Below nL.heap.size nL W2:=by rw[hW2];exact ah (ah (Below.refl _ _) _) _
  have hE2:W2.heap[w.heap.size]? = some (.cells #[.int .i64 e.kind,.slice o1 e.set.length q1,.slice o2 e.parts.length q2] 35 (0,0)):=by
   rw[hW2,Below.heap_alloc _ _ _ (by simp[hsz0]),←hsz0];exact heap_alloc_new nL _
  have hD2:W2.heap[w.heap.size+1]? = some (.cells #[.int .i64 deep] 3 (0,0)):=by
   rw[hW2]
   have:=heap_alloc_new (nL.alloc (.cells #[.int .i64 e.kind,.slice o1 e.set.length q1,.slice o2 e.parts.length q2] 35)) (.cells #[.int .i64 deep] 3)
   simpa [hsz0] using this
  have hv2:qX w0 W2 qn qv (n+1):=hv0.moved hb2
  have hcw:Ch w W2 qn:=hc0.xU hb2
  have hstep:((w.setCell ⟨qn,0,none⟩ (.int .i64 ((n:Int)+1))).alloc (.cells #[.int .i64 e.kind,.slice o1 e.set.length q1,.slice o2 e.parts.length q2] 35)).alloc (.cells #[.int .i64 deep] 3)=W2:=by rw[hW2,hW0];rfl
  have hsz2:w.heap.size+1<W2.heap.size:=dK hD2
  have hnz:(n:Int)≤1000:=by omega
  have hdz:(deep:Int)≤1000:=by omega
  obtain⟨d0,g0⟩:=aj hv2.cn
  obtain⟨d1,g1⟩:=aj hD2
  have H2:=Lib.hid (And.intro hv2 (And.intro hcw (And.intro hE2 hD2)))
  have rC:=Lib.hid hall
  have HR:=Lib.hid hr
  have hshape:=fun w' hb=>GL e _ _ w' (hr.moved hb) hf
  have Yz:=Lib.hid hshape
  have HST:=Lib.hid hstep
  clear hv hc0 hv0 hv2 hcw hE2 hD2 hb2 hW0 hW2 hsz0 hall hr hshape hstep
  by_cases PU:60<n+1
  · have hres := Lib.hid (show e.vis n deep = (false, n + 1) by rw [tX, if_pos (.inl PU)])
    have t60:decide ((60:Int)<(n:Int)+1)=true:=by simp;omega
    clear tX
    go_enter Tryz.func126,Tryz.ntmps126
    go_wp2_with fail
    go_ret
    unfold wR
    rw[hres.out]
    refine⟨rfl,?_,?_⟩
    · rw[HST.out];exact H2.out.1
    · rw[HST.out];exact H2.out.2.1
  have t60:decide ((60:Int)<(n:Int)+1)=false:=by simp;omega
  by_cases PV:12<deep
  · have hres := Lib.hid (show e.vis n deep = (false, n + 1) by rw [tX, if_pos (.inr (.inl PV))])
    have t12:decide ((12:Int)<(deep:Int))=true:=by simp;omega
    clear tX
    go_enter Tryz.func126,Tryz.ntmps126
    go_wp2_with fail
    go_ret
    unfold wR
    rw[hres.out,HST.out]
    exact⟨rfl,H2.out.1,H2.out.2.1⟩
  have t12:decide ((12:Int)<(deep:Int))=false:=by simp;omega
  have hE2:=H2.out.2.2.1
  have hcell : ∀ w', Below W2.heap.size W2 w' → w'.cell? ⟨w.heap.size, 0, none⟩ = some (.int .i64 e.kind) ∧ w'.cell? ⟨w.heap.size, 1, none⟩ = some (.slice o1 e.set.length q1) ∧ w'.cell? ⟨w.heap.size, 2, none⟩ = some (.slice o2 e.parts.length q2) := fun w' hb => by
   have:=aB hb hE2
   simp[World.cell?,this]
  obtain⟨x0,x1,x2⟩:=hcell W2 (Below.refl _ _)
  have zm:=Lib.hid hcell
  clear hcell hE2
  cases hsh:e.iN with
  | false =>
   have hres:=Lib.hid (show e.vis n deep=(false,n+1) by rw[tX,if_pos (.inr (.inr hsh))])
   have Wj:=Lib.hid (show e.iN=false from hsh)
   clear tX hsh
   go_enter Tryz.func126,Tryz.ntmps126
   go_wp2_with fail
   rw[HST.out]
   refine(Yz.out W2 (by first|exact H2.out.1.aV|exact H2.out.1.aV)).mono ?_
   rintro x w3 ⟨rfl,hb3⟩
   rw[Wj.out]
   have H3:=Lib.hid (And.intro (H2.out.1.moved hb3) (H2.out.2.1.xU hb3))
   clear hb3
   go_wp2_with fail
   go_ret
   unfold wR
   rw[hres.out]
   exact⟨rfl,H3.out.1,H3.out.2⟩
  | true =>
   have GN:=Lib.hid (show e.vis n deep=RE.eZ e.parts (n+1) (deep+1) by rw[tX,if_neg (by rintro(h|h|h)<;>first|omega|(rw[hsh] at h;cases h))])
   have Wj:=Lib.hid (show e.iN=true from hsh)
   have PX:n+1≤60:=by omega
   have Zi:deep≤12:=by omega
   clear tX hsh
   go_enter Tryz.func126,Tryz.ntmps126
   go_wp2_with fail
   rw[HST.out]
   refine(Yz.out W2 (by first|exact H2.out.1.aV|exact H2.out.1.aV)).mono ?_
   rintro x w3 ⟨rfl,hb3⟩
   rw[Wj.out]
   have hx:=zm.out w3 hb3
   have hx2:=hx.2.2
   have hD3:=aB hb3 H2.out.2.2.2
   have hv3:=H2.out.1.moved hb3
   have hc3:=H2.out.2.1.xU hb3
   have hz3:w.heap.size+1<w3.heap.size:=dK hD3
   have H3:=Lib.hid (And.intro hv3 (And.intro hc3 hD3))
   have ng:∀(fn:Fn) (first cap:Array Value) (w:World),(Instr.makeFunc fn first cap).run Tryz.prog w=.ok (.func fn first cap) w:=fun _ _ _ _=>rfl
   clear hx hb3 hD3 hv3 hc3 x0 x1 x2 d0 d1 g0 g1
   go_wp2_with fail
   refine (Ay e.parts.length o2 q2 (.pointer (some ⟨qv, 0, none⟩)) (.pointer (some ⟨w.heap.size + 1, 0, none⟩)) (fun i => .int .i64 (e.parts.getD i e).kind) c1 c2
    (fun i w'=>∃m,m≤60∧qX w0 w' qn qv m∧Ch w w' qn∧w'.heap[w.heap.size+1]? = some (.cells #[.int .i64 deep] 3 (0,0))∧RE.eZ e.parts (n+1) (deep+1)=RE.eZ (e.parts.drop i) m (deep+1))
    (fun i w'=>∃m,qX w0 w' qn qv m∧Ch w w' qn∧RE.eZ e.parts (n+1) (deep+1)=(false,m))
    w3 (by omega) ?hel ?hf ⟨n+1,PX,H3.out.1,H3.out.2.1,H3.out.2.2,by rw[List.drop_zero]⟩).mono ?_
   case hel=>
    intro i hi
    obtain⟨p,hp⟩:∃p,e.parts[i]? = some p:=⟨e.parts[i],List.getElem?_eq_getElem hi⟩
    obtain⟨Mg,b,off,rfl,hbl,k0,k1,k2⟩:=rC.out i p hp
    have hg:e.parts.getD i e=p:=by rw[List.getD,hp];rfl
    refine⟨b,off,rfl,fun w' hSt=>?_⟩
    obtain⟨m,_,uN,_⟩:=hSt
    rw[hg]
    exact⟨(uN.aV.cell hbl).trans k0,(uN.aV.cell hbl).trans k1,(uN.aV.cell hbl).trans k2⟩
   case hf=>
    intro i w' hi hSt
    obtain⟨m,PY,uN,hcm,JU,mM⟩:=hSt
    obtain⟨p,hp⟩:∃p,e.parts[i]? = some p:=⟨e.parts[i],List.getElem?_eq_getElem hi⟩
    have hg:e.parts.getD i e=p:=by rw[List.getD,hp];rfl
    have hpe:e.parts[i]=p:=by rw[List.getElem?_eq_getElem hi] at hp;exact Option.some.inj hp
    have hsz:=RE.jT hp
    rw[hg]
    refine(Lc w0 N qn qv (w.heap.size+1) ih p (c1 i) (c2 i) m deep w' (by omega) (hf.part hp) (rC.out i p hp).1 uN (by omega) (by omega) JU).mono ?_
    rintro x w4 ⟨rfl,hv4,hc4⟩
    have rW:RE.eZ e.parts (n+1) (deep+1)=if (p.vis m (deep+1)).1=true then RE.eZ (e.parts.drop (i+1)) (p.vis m (deep+1)).2 (deep+1) else (false,(p.vis m (deep+1)).2):=by
     rw[mM,List.drop_eq_getElem_cons hi,RE.oH,hpe]
    cases hb:(p.vis m (deep+1)).1 with
    | true =>
     rw[hb,if_pos rfl] at rW
     exact .inr ⟨rfl,_,RE.Dl _ p (Nat.le_refl _) m (deep+1) hb,hv4,hcm.trans hc4,hc4.get JU (by have:=dK uN.cn;omega),rW⟩
    | false =>
     rw[hb,if_neg (by decide)] at rW
     exact .inl ⟨rfl,_,hv4,hcm.trans hc4,rW⟩
   rintro x w5 (⟨i,hi,rfl,m,hv5,aK,mM⟩|⟨rfl,m,PY,hv5,aK,hd5,mM⟩)
   · have H5 := Lib.hid (And.intro hv5 (And.intro aK mM))
     clear hv5 aK mM
     go_wp2_with fail
     go_ret
     unfold wR
     rw[GN.out,H5.out.2.2]
     exact⟨rfl,H5.out.1,H5.out.2.1⟩
   · rw [List.drop_length, RE.tV] at mM
     have H5:=Lib.hid (And.intro hv5 (And.intro aK mM))
     clear hv5 aK mM hd5
     go_wp2_with fail
     go_ret
     unfold wR
     rw[GN.out,H5.out.2.2]
     exact⟨rfl,H5.out.1,H5.out.2.1⟩
theorem Eb (e:RE) (sv lv:Value) (w:World) (h:bI w e sv lv) (hf:e.Fit) :
 Calls Tryz.prog 99 #[.agg #[.int .i64 e.kind,sv,lv]] w fun x w'=>x=.returned (.bool e.may)∧Below w.heap.size w w':=by
 obtain⟨⟨o1,q1,rfl⟩,⟨o2,q2,rfl⟩⟩:=h.form
 have hva:=fun w' (hv:qX w w' (w.heap.size+1) (w.heap.size+1+1) 0)=>Nj w (w.heap.size+1) (w.heap.size+1+1) e.size e _ _ 0 1 w' (Nat.le_refl _) hf h hv (by omega) (by omega)
 have HV:=Lib.hid hva
 have ng:∀(fn:Fn) (first cap:Array Value) (w:World),(Instr.makeFunc fn first cap).run Tryz.prog w=.ok (.func fn first cap) w:=fun _ _ _ _=>rfl
 clear hva h hf
 go_enter Tryz.func99,Tryz.ntmps99
 go_wp2_with fail
 obtain⟨W,hW⟩:∃W,W=((w.alloc (.cells #[.int .i64 e.kind,.slice o1 e.set.length q1,.slice o2 e.parts.length q2] 35)).alloc (.cells #[.int .i64 0] 3)).alloc (.cells #[Ni (w.heap.size+1) (w.heap.size+1+1)] 169):=⟨_,rfl⟩
 have hb:Below w.heap.size w W:=by rw[hW];exact ah (ah (ah (Below.refl _ _) _) _) _
 have hv:qX w W (w.heap.size+1) (w.heap.size+1+1) 0:=by
  refine⟨hb,?_,?_,by omega,by omega,by omega⟩
  · rw [hW, Below.heap_alloc _ _ _ (by simp)]
    have:=heap_alloc_new (w.alloc (.cells #[.int .i64 e.kind,.slice o1 e.set.length q1,.slice o2 e.parts.length q2] 35)) (.cells #[.int .i64 0] 3)
    simpa using this
  · rw [hW]
    have:=heap_alloc_new ((w.alloc (.cells #[.int .i64 e.kind,.slice o1 e.set.length q1,.slice o2 e.parts.length q2] 35)).alloc (.cells #[.int .i64 0] 3)) (.cells #[Ni (w.heap.size+1) (w.heap.size+1+1)] 169)
    simpa using this
 refine(HV.out _ (by unfold Ni at hW;first|exact hW▸hv|(rw[←hW];exact hv))).mono ?_
 rintro x w2 ⟨rfl,hv2,hc2⟩
 have H2:=Lib.hid hv2.aV
 clear hv2 hc2
 go_wp2_with fail
 go_ret
 exact⟨rfl,H2.out⟩
end Go.Proofs.YtfkmajjgkdjncaaGreatDoor
