/- Merged. -/
import Derived.Test.YtfkmajjgkdjncaaGreatDoorPmRe
import Derived.Test.YtfkmajjgkdjncaaGreatDoorPaFail
import Derived.Test.YtfkmajjgkdjncaaGreatDoorPaEsc
set_option linter.unusedVariables false
set_option linter.unusedSimpArgs false
namespace Go.Proofs.YtfkmajjgkdjncaaGreatDoor
open Go.RowKit De Wd Ru
namespace Px
inductive Rs where
 | ok (e:RE) (k:Nat)
 | bad (c:Int) (z:Nat)
inductive dh (L:Its):Nat→Nat→Prop
 | stop {k:Nat} (h:k<L.length→pk L k=93) (h2:k≤L.length):dh L k k
 | esc {k j:Nat} (h:k+1<L.length) (e:pk L k=92) (r:dh L (k+2) j):dh L k j
 | go {k j:Nat} (h:k<L.length) (e:pk L k≠93) (e2:k+1<L.length→pk L k≠92) (r:dh L (k+1) j):dh L k j
inductive wu (L:Its):Nat→Nat→Prop
 | one {k:Nat} (h:pk L k≠117):wu L k (min (k+1) L.length)
 | num {k j:Nat} (h:pk L k=117) (s:Pm.jI L (k+1) j):wu L k (min (j+1) L.length)
def nZ (L:Its) (n:Nat) (cl:Nat→Nat→Cr) (a j:Nat):Rs:=
 match cl a (aA L n j) with
 | .bad z=>.bad 3 (a+z)
 | .ok S=>if pk L j=93 then .ok (.mk 2 S []) (j+1) else .bad 3 (aA L n j)
def kW (L:Its) (n:Nat) (cl:Nat→Nat→Cr) (a j:Nat):Rs:=
 match cl a (aA L n j) with
 | .bad z=>.bad 3 (a+z)
 | .ok S=>.ok (.mk 2 S []) j
section
variable (L:Its) (n:Nat) (cl:Nat→Nat→Cr)
mutual
inductive iG:Nat→Nat→Rs→Prop
 | mk {d k k1:Nat} {a:RE} {R:Rs} (h:Alt d k (.ok a k1)) (r:mX d a k1 R):iG d k R
 | bad {d k z:Nat} {c:Int} (h:Alt d k (.bad c z)):iG d k (.bad c z)
inductive mX:Nat→RE→Nat→Rs→Prop
 | stop {d k:Nat} {a:RE} (h:pk L k≠124):mX d a k (.ok a k)
 | go {d k k1:Nat} {a b:RE} {R:Rs} (h:pk L k=124) (p:Alt d (k+1) (.ok b k1)) (r:mX d (.mk 4 [] [a,b]) k1 R):mX d a k R
 | bad {d k z:Nat} {a:RE} {c:Int} (h:pk L k=124) (p:Alt d (k+1) (.bad c z)):mX d a k (.bad c z)
inductive Alt:Nat→Nat→Rs→Prop
 | none {d k:Nat} (h:Pm.eG (pk L k)=false):Alt d k (.ok (.mk 1 [] []) k)
 | some {d k k1:Nat} {a:RE} {R:Rs} (h:Pm.eG (pk L k)=true) (p:Post d k (.ok a k1)) (r:qz d a k1 R):Alt d k R
 | bad {d k z:Nat} {c:Int} (h:Pm.eG (pk L k)=true) (p:Post d k (.bad c z)):Alt d k (.bad c z)
inductive qz:Nat→RE→Nat→Rs→Prop
 | stop {d k:Nat} {a:RE} (h:Pm.eG (pk L k)=false):qz d a k (.ok a k)
 | go {d k k1:Nat} {a b:RE} {R:Rs} (h:Pm.eG (pk L k)=true) (p:Post d k (.ok b k1)) (r:qz d (.mk 3 [] [a,b]) k1 R):qz d a k R
 | bad {d k z:Nat} {a:RE} {c:Int} (h:Pm.eG (pk L k)=true) (p:Post d k (.bad c z)):qz d a k (.bad c z)
inductive Post:Nat→Nat→Rs→Prop
 | mk {d k k1 k2:Nat} {a e:RE} (h:Atom d k (.ok a k1)) (r:vC L a k1 e k2):Post d k (.ok e k2)
 | bad {d k z:Nat} {c:Int} (h:Atom d k (.bad c z)):Post d k (.bad c z)
inductive Atom:Nat→Nat→Rs→Prop
 | par {d k k1:Nat} {e:RE} (h:pk L k=40) (hd:d<40) (p:iG (d+1) (k+1) (.ok e k1)) (h2:pk L k1=41):Atom d k (.ok e (k1+1))
 | deep {d k:Nat} (h:pk L k=40) (hd:d=40):Atom d k (.bad 7 (aA L n k))
 | Xy {d k z:Nat} {c:Int} (h:pk L k=40) (hd:d<40) (p:iG (d+1) (k+1) (.bad c z)):Atom d k (.bad c z)
 | U0 {d k k1:Nat} {e:RE} (h:pk L k=40) (hd:d<40) (p:iG (d+1) (k+1) (.ok e k1)) (h2:pk L k1≠41):Atom d k (.bad 3 (aA L n k1))
 | cls {d k j:Nat} {R:Rs} (h:pk L k=91) (s:dh L (k+1) j) (c:R=nZ L n cl (aA L n k+1) j):Atom d k R
 | esc {d k j:Nat} {R:Rs} (h:pk L k=92) (s:wu L (k+1) j) (c:R=kW L n cl (aA L n k) j):Atom d k R
 | dot {d k:Nat} (h:pk L k=46):Atom d k (.ok (.mk 2 (Ru.nt [(10,10)]) []) (k+1))
 | one {d k:Nat} {r:Int} (h:pk L k=r) (ha:32≤r∧r ∉ Pm.zA):Atom d k (.ok (.mk 2 [(r,r)] []) (k+1))
end
end
def Good (L:Its) (n k:Nat):Rs→Prop
 | .ok _ k'=>k≤k'∧k'≤L.length
 | .bad c z=>(c=3∨c=7)∧z≤n
def zk (L:Its) (n k:Nat):Rs→Prop
 | .ok _ k'=>k<k'∧k'≤L.length
 | .bad c z=>(c=3∨c=7)∧z≤n
theorem Good.le {L:Its} {n k j:Nat} (hj:j≤k):∀ {R:Rs},Good L n k R→Good L n j R
 | .ok _ _,h=>⟨Nat.le_trans hj h.1,h.2⟩
 | .bad _ _,h=>h
structure Src (L:Its) (n:Nat) (cl:Nat→Nat→Cr):Prop where
 lim:∀k,aA L n k≤n
 mono:∀i j,i≤j→aA L n i≤aA L n j
 next:∀i,i<L.length→aA L n i+1≤aA L n (i+1)
 bad:∀a b z,a≤b→b≤n→cl a b=.bad z→a+z≤n
theorem Mx (L:Its):∀g k,k+g=L.length→∃j,dh L k j:=by
 intro g
 induction g using Nat.strongRecOn with
 | ind g ih =>
  intro k hk
  by_cases h0:k<L.length
  · by_cases h1 : pk L k = 93
    · exact⟨k,.stop (fun _=>h1) (by omega)⟩
    · by_cases h2 : k + 1 < L.length ∧ pk L k = 92
      · obtain ⟨j, hj⟩ := ih (g - 2) (by omega) (k + 2) (by omega)
        exact⟨j,.esc h2.1 h2.2 hj⟩
      · obtain ⟨j, hj⟩ := ih (g - 1) (by omega) (k + 1) (by omega)
        exact⟨j,.go h0 h1 (fun h e=>h2 ⟨h,e⟩) hj⟩
  · exact⟨k,.stop (fun h=>absurd h h0) (by omega)⟩
theorem zS {L:Its} {k j:Nat} (h:dh L k j):k≤j∧j≤L.length:=by
 induction h with
 | stop _ h=>exact⟨Nat.le_refl _,h⟩
 | esc _ _ _ ih=>exact⟨by omega,ih.2⟩
 | go _ _ _ _ ih=>exact⟨by omega,ih.2⟩
theorem MB (L:Its):∀g k,k+g=L.length→∃j,Pm.jI L k j∧k≤j∧j≤L.length:=by
 intro g
 induction g with
 | zero=>intro k hk;exact⟨k,.stop (fun h=>by omega),Nat.le_refl _,by omega⟩
 | succ g ih =>
  intro k hk
  by_cases h1:pk L k=125
  · exact⟨k,.stop (fun _=>h1),Nat.le_refl _,by omega⟩
  · obtain ⟨j, hj, h2, h3⟩ := ih (k + 1) (by omega)
    exact⟨j,.go (by omega) h1 hj,by omega,h3⟩
theorem MC (L:Its) (k:Nat) (hk:k≤L.length):∃j,wu L k j∧k≤j∧j≤L.length:=by
 by_cases h:pk L k=117
 · have h0 := Pm.mV h (by decide)
   obtain⟨j,hj,h2,h3⟩:=MB L (L.length-(k+1)) (k+1) (by omega)
   exact⟨_,.num h hj,by omega,by omega⟩
 · exact⟨_,.one h,by omega,by omega⟩
theorem SV (L:Its):∀g k a,k+g=L.length→∃e k',vC L a k e k'∧k≤k'∧k'≤L.length:=by
 intro g
 induction g with
 | zero=>intro k a hk;exact⟨a,k,.stop (fun h=>by have:=Pm.mV h (by decide);omega),Nat.le_refl _,by omega⟩
 | succ g ih =>
  intro k a hk
  by_cases h1:pk L k=42
  · obtain ⟨e, k', h2, h3, h4⟩ := ih (k + 1) (.mk 5 [] [a]) (by omega)
    exact⟨e,k',.go h1 h2,by omega,h4⟩
  · exact⟨a,k,.stop h1,Nat.le_refl _,by omega⟩
theorem ME {L:Its} {k:Nat} (h:Pm.eG (pk L k)=true):k<L.length∧32≤pk L k:=by
 unfold Pm.eG at h
 simp at h
 exact⟨Pm.mV rfl (by omega),h.1⟩
theorem MF {L:Its} {n:Nat} {cl:Nat→Nat→Cr} (hS:Src L n cl) {a j k:Nat} (hk:k<j) (hj:j≤L.length) (ha:a≤aA L n j):zk L n k (nZ L n cl a j):=by
 unfold nZ
 cases hc:cl a (aA L n j) with
 | bad z=>exact⟨.inl rfl,hS.bad _ _ z ha (hS.lim j) hc⟩
 | ok S =>
  show zk L n k (if pk L j=93 then _ else _)
  split
  · rename_i h;exact⟨by omega,Pm.mV h (by decide)⟩
  · exact⟨.inl rfl,hS.lim j⟩
theorem MG {L:Its} {n:Nat} {cl:Nat→Nat→Cr} (hS:Src L n cl) {a j k:Nat} (hk:k<j) (hj:j≤L.length) (ha:a≤aA L n j):zk L n k (kW L n cl a j):=by
 unfold kW
 cases hc:cl a (aA L n j) with
 | bad z=>exact⟨.inl rfl,hS.bad _ _ z ha (hS.lim j) hc⟩
 | ok S=>exact⟨hk,hj⟩
section
variable {L:Its} {n:Nat} {cl:Nat→Nat→Cr}
theorem OZ (hS:Src L n cl) {k:Nat} (hA:∀d,d≤40→∃R,iG L n cl d (k+1) R∧Good L n (k+1) R) (h:Pm.eG (pk L k)=true) {d:Nat} (hd:d≤40):∃R,Atom L n cl d k R∧zk L n k R:=by
 obtain⟨hk,h32⟩:=ME h
 by_cases qW:pk L k=40
 · by_cases hd4 : d = 40
   · exact⟨_,.deep qW hd4,.inr rfl,hS.lim k⟩
   · obtain ⟨R, h1, h2⟩ := hA (d + 1) (by omega)
     match R,h1,h2 with
     | .bad c z,h1,h2=>exact⟨_,.Xy qW (by omega) h1,h2⟩
     | .ok e k1, h1, h2 =>
      by_cases kG:pk L k1=41
      · exact⟨_,.par qW (by omega) h1 kG,by have:=h2.1;omega,Pm.mV kG (by decide)⟩
      · exact⟨_,.U0 qW (by omega) h1 kG,.inl rfl,hS.lim k1⟩
 · by_cases U1 : pk L k = 91
   · obtain ⟨j, hj⟩ := Mx L (L.length - (k + 1)) (k + 1) (by omega)
     have h2:=zS hj
     exact⟨_,.cls U1 hj rfl,MF hS (by omega) h2.2 (by have:=hS.next k hk;have:=hS.mono _ _ h2.1;omega)⟩
   · by_cases lT : pk L k = 92
     · obtain ⟨j, hj, h2, h3⟩ := MC L (k + 1) (by omega)
       exact⟨_,.esc lT hj rfl,MG hS (by omega) h3 (hS.mono _ _ (by omega))⟩
     · by_cases h46 : pk L k = 46
       · exact⟨_,.dot h46,by omega,hk⟩
       · refine ⟨_, .one rfl ⟨h32, fun hn => ?_⟩, by omega, hk⟩
         unfold Pm.eG at h
         simp[hn,Pm.vJ] at h
         omega
theorem O0 (hS:Src L n cl) {k:Nat} (hA:∀d,d≤40→∃R,iG L n cl d (k+1) R∧Good L n (k+1) R) (h:Pm.eG (pk L k)=true) {d:Nat} (hd:d≤40):∃R,Post L n cl d k R∧zk L n k R:=by
 obtain⟨R,h1,h2⟩:=OZ hS hA h hd
 match R,h1,h2 with
 | .bad c z,h1,h2=>exact⟨_,.bad h1,h2⟩
 | .ok a k1, h1, h2 =>
  obtain⟨e,k2,h3,h4,h5⟩:=SV L (L.length-k1) k1 a (by have:=h2.2;omega)
  exact⟨_,.mk h1 h3,by have:=h2.1;omega,h5⟩
theorem tot (hS:Src L n cl):∀g,(∀k,k+g=L.length→∀d,d≤40→∃R,iG L n cl d k R∧Good L n k R):=by
 intro g
 induction g using Nat.strongRecOn with
 | ind g ih =>
  have IH:∀k,L.length<k+g→k≤L.length→∀d,d≤40→∃R,iG L n cl d k R∧Good L n k R:=fun k h1 h2 d hd=>ih (L.length-k) (by omega) k (by omega) d hd
  have hP:∀k,L.length≤k+g→Pm.eG (pk L k)=true→∀d,d≤40→∃R,Post L n cl d k R∧zk L n k R:=fun k hk h d hd=>
   O0 hS (fun d hd=>IH (k+1) (by omega) (ME h).1 d hd) h hd
  have hAL:∀m k,k+m=L.length→L.length≤k+g→∀d,d≤40→∀a,∃R,qz L n cl d a k R∧Good L n k R:=by
   intro m
   induction m using Nat.strongRecOn with
   | ind m U2 =>
    intro k hk hg d hd a
    cases h:Pm.eG (pk L k) with
    | false=>exact⟨_,.stop h,Nat.le_refl _,by omega⟩
    | true =>
     obtain⟨R,h1,h2⟩:=hP k hg h d hd
     match R,h1,h2 with
     | .bad c z,h1,h2=>exact⟨_,.bad h h1,h2⟩
     | .ok b k1, h1, h2 =>
      have h3:=h2.1
      have h4:=h2.2
      obtain⟨R,h5,h6⟩:=U2 (L.length-k1) (by omega) k1 (by omega) (by omega) d hd (.mk 3 [] [a,b])
      exact⟨R,.go h h1 h5,h6.le (by omega)⟩
  have hA:∀k,k≤L.length→L.length≤k+g→∀d,d≤40→∃R,Alt L n cl d k R∧Good L n k R:=by
   intro k hk hg d hd
   cases h:Pm.eG (pk L k) with
   | false=>exact⟨_,.none h,Nat.le_refl _,hk⟩
   | true =>
    obtain⟨R,h1,h2⟩:=hP k hg h d hd
    match R,h1,h2 with
    | .bad c z,h1,h2=>exact⟨_,.bad h h1,h2⟩
    | .ok a k1, h1, h2 =>
     have h3:=h2.1
     have h4:=h2.2
     obtain⟨R,h5,h6⟩:=hAL (L.length-k1) k1 (by omega) (by omega) d hd a
     exact⟨R,.some h h1 h5,h6.le (by omega)⟩
  have hSL:∀m k,k+m=L.length→L.length≤k+g→∀d,d≤40→∀a,∃R,mX L n cl d a k R∧Good L n k R:=by
   intro m
   induction m using Nat.strongRecOn with
   | ind m U2 =>
    intro k hk hg d hd a
    by_cases h:pk L k=124
    · have h0 := Pm.mV h (by decide)
      obtain⟨R,h1,h2⟩:=hA (k+1) (by omega) (by omega) d hd
      match R,h1,h2 with
      | .bad c z,h1,h2=>exact⟨_,.bad h h1,h2⟩
      | .ok b k1, h1, h2 =>
       have h3:=h2.1
       have h4:=h2.2
       obtain⟨R,h5,h6⟩:=U2 (L.length-k1) (by omega) k1 (by omega) (by omega) d hd (.mk 4 [] [a,b])
       exact⟨R,.go h h1 h5,h6.le (by omega)⟩
    · exact⟨_,.stop h,Nat.le_refl _,by omega⟩
  intro k hk d hd
  obtain⟨R,h1,h2⟩:=hA k (by omega) (by omega) d hd
  match R,h1,h2 with
  | .bad c z,h1,h2=>exact⟨_,.bad h1,h2⟩
  | .ok a k1, h1, h2 =>
   have h3:=h2.1
   have h4:=h2.2
   obtain⟨R,h5,h6⟩:=hSL (L.length-k1) k1 (by omega) (by omega) d hd a
   exact⟨R,.mk h1 h5,h6.le (by omega)⟩
end
end Px
end Go.Proofs.YtfkmajjgkdjncaaGreatDoor

set_option maxHeartbeats 1000000
namespace Go.Proofs.YtfkmajjgkdjncaaGreatDoor
open Go.RowKit De Wd
def RP (R:Px.Rs) (p:Nat) (s:ByteArray) (L:Its) (d:Nat) (v:Value) (w:World) (x:Ending) (w':World):Prop:=
 match R with
 | .ok e k'=>jv w w' e x∧Ch w w' p∧XI w' p s L k' d v
 | .bad c z=>x=dL c z∧Ch w w' p
theorem RP.Kv {R:Px.Rs} {p k' d:Nat} {s:ByteArray} {L:Its} {v:Value} {e:RE} {w w':World} {x:Ending} (hR:R=.ok e k') (h:jv w w' e x∧Ch w w' p∧XI w' p s L k' d v):RP R p s L d v w x w':=by rw[hR];exact h
theorem RP.ze {R:Px.Rs} {p d z:Nat} {c:Int} {s:ByteArray} {L:Its} {v:Value} {w w':World} (hR:R=.bad c z) (h:Ch w w' p):RP R p s L d v w (dL c z) w':=by rw[hR];exact⟨rfl,h⟩
theorem nH (p k d a b z:Nat) (s:ByteArray) (L:Its) (v:Value) (w:World) (h:XI w p s L k d v) (hab:a≤b) (hb:b≤s.size) (hsz:b-a≤100000) (hc:gP s a b=.bad z) (hz:a+z≤1000000) :
 Calls Tryz.prog 175 #[.pointer (some ⟨p,0,none⟩),.int .i64 a,.int .i64 b] w fun e w'=>e=dL 3 ((a+z:Nat):Int)∧Below w.heap.size w w':=by
 obtain⟨⟨c0,c1,c2,c3⟩,f0,f1,f2,f3⟩:=aJ h.hh
 have hx:(s.extract a b).size≤100000:=by rw[ByteArray.size_extract];omega
 have hcl:=fun w=>Bg (s.extract a b) w hx (xE _ 0 _ (Nat.le_refl _) (oJ _))
 have HC:=Lib.hid hc
 have ni:=Lib.hid hcl
 have i1:(0:Int)≤(a:Int):=by omega
 have i2:(a:Int)≤(b:Int):=by omega
 have i3:(b:Int)≤(s.size:Int):=by omega
 have i4:(a:Int)≤1000000:=by omega
 have i5:(0:Int)≤(z:Int):=by omega
 have i6:(z:Int)≤1000000:=by omega
 have EQ:=Lib.hid (show(a:Int)+(z:Int)=((a+z:Nat):Int) by omega)
 clear h hc hcl
 go_enter Tryz.func175,Tryz.ntmps175
 go_wp2_with fail
 refine(ni.out _).mono ?_
 rintro e w1 hpost
 unfold kY at hpost
 have e1:kE (all 0 (sb (s.extract a b))) (s.extract a b).size=.bad z:=HC.out
 rw[e1] at hpost
 obtain⟨rfl,hbel⟩:=hpost
 have HO:=Lib.hid hbel
 clear hbel e1
 go_wp2_with fail
 refine⟨rfl,?_,HO.out⟩
 rw[←EQ.out]
end Go.Proofs.YtfkmajjgkdjncaaGreatDoor

set_option maxHeartbeats 4000000
set_option maxRecDepth 100000
namespace Go.Proofs.YtfkmajjgkdjncaaGreatDoor
open Go.RowKit De Wd
theorem I5 {L:Its} {k j:Nat} (h:Px.wu L k j):(pk L k≠117∧j=min (k+1) L.length)∨(pk L k=117∧∃j0,Pm.jI L (k+1) j0∧j=min (j0+1) L.length):=by
 cases h with
 | one h=>exact .inl ⟨h,rfl⟩
 | num h s=>exact .inr ⟨h,_,s,rfl⟩
theorem MH {L:Its} {k j:Nat} (h:Pm.jI L k j):k≤j:=by
 induction h with
 | stop _=>omega
 | go _ _ _ ih=>omega
def PE (L : Its) (lg : Bool) (k j : Nat) : Prop := match lg with
 | true=>∃j0,Pm.jI L k j0∧j=min (j0+1) L.length
 | false=>j=min (k+1) L.length
theorem Eu (p k d a j:Nat) (s:ByteArray) (L:Its) (v:Value) (w:World) (h:XI w p s L k d v) (hs:Px.wu L k j)
 (hab:a≤aA L s.size j) (hb:aA L s.size j≤s.size) (hsz:aA L s.size j-a≤100000) (hc:∀z,gP s a (aA L s.size j)=.bad z→a+z≤1000000) :
 Calls Tryz.prog 156 #[.pointer (some ⟨p,0,none⟩),.int .i64 a] w (RP (Px.kW L s.size (gP s) a j) p s L d v w):=by
 have hsm:=h.small
 have hle:=h.le
 have dw:=h.lt
 obtain⟨ov,cv,hv,_⟩:=h.row
 have hA:=h.moved (ah (Below.refl _ _) (.cells #[.int .i64 0,.slice none 0 0,.slice none 0 0] 35))
 obtain⟨W0,hW0⟩:∃W0,W0=w.alloc (.cells #[.int .i64 0,.slice none 0 0,.slice none 0 0] 35):=⟨_,rfl⟩
 have hr0:W0.heap[w.heap.size]? = some (.cells #[.int .i64 0,.slice none 0 0,.slice none 0 0] 35 (0,0)):=by rw[hW0];exact heap_alloc_new w _
 have kg:W0.heap.size=w.heap.size+1:=by rw[hW0];simp
 have hcW:Ch w W0 p:=by rw[hW0];exact Ch.of (ah (Below.refl _ _) _)
 rw[←hW0] at hA
 have HX:=Lib.hid h
 have HA:=Lib.hid (And.intro hA (And.intro hr0 hcW))
 have HS:=Lib.hid hs
 have HB:=Lib.hid (And.intro hab (And.intro hb (And.intro hsz hc)))
 have HW0:=Lib.hid hW0
 have hle0:=hle
 clear h hs hab hb hsz hc hA hr0 hcW hW0
 subst hv
 obtain⟨lg,k1,UA,hk1,hS1⟩:∃(lg:Bool) (k1:Nat),lg=decide (pk L k=117)∧k1=(if pk L k=117 then k+1 else k)∧PE L lg k1 j:=by
  rcases I5 HS.out with⟨h,hj⟩|⟨h,j0,hs,hj⟩
  · exact⟨false,k,(decide_eq_false h).symm,(if_neg h).symm,hj⟩
  · exact⟨true,k+1,(decide_eq_true h).symm,(if_pos h).symm,j0,hs,hj⟩
 have qV:=Lib.hid hS1
 have HE:=Lib.hid (And.intro UA hk1)
 clear hS1 UA hk1
 go_enter Tryz.func156,Tryz.ntmps156
 go_wp2_with fail
 rw[←HW0.out]
 refine(iA p k d 117 s L _ _ HA.out.1 (by decide)).mono ?_
 rintro x w1 ⟨rfl,hc1,hx1⟩
 rw[←HE.out.2] at hx1
 rw[←HE.out.1]
 have aa8:=hx1.le
 have Uh:=Lib.hid hx1
 have Dx:=Lib.hid hc1
 clear hx1 hc1
 go_wp2_with fail
 go_loopg [] (L.length-k1) (fun g wx=>∃ki:Nat,ki+g=L.length∧XI wx p s L ki d (.slice ov L.length cv)∧Ch W0 wx p∧PE L lg ki j)
 case atStart=>exact⟨k1,by omega,Uh.out,Dx.out,qV.out⟩
 case round=>
  obtain⟨ki,hkg,hxi,hch,hpe⟩:=hrel
  obtain⟨⟨c0,c1,c2,c3⟩,f0,f1,f2,f3⟩:=aJ hxi.hh
  have hxl:=hxi.le
  have HI:=Lib.hid (And.intro hxi hch)
  have Ow:(0:Int)≤(ki:Int):=by omega
  clear hxi hch
  by_cases hkl:ki<L.length
  · have e1 : decide ((ki : Int) < (L.length : Int)) = true := by simp; omega
    have e2:decide (ki<L.length)=true:=by simp;omega
    cases lg with
    | false =>
     have hj:j=ki+1:=by have h9:j=min (ki+1) L.length:=hpe;omega
     subst hj
     clear hpe
     go_wp2_with fail
     go_quiet (fail)
     clear c0 c1 c2 c3 f0 f1 f2 f3
     have bC:=Lib.hid (And.intro (HI.out.1.drewN nq) (HI.out.2.trans (Ch.drewN p nq)))
     obtain⟨⟨c0,c1,c2,c3⟩,f0,f1,f2,f3⟩:=aJ bC.out.1.hh
     generalize wr.drewN nq=wq at bC c0 c1 c2 c3 f0 f1 f2 f3 ⊢
     go_wp2_with fail
     go_quiet (fail)
     clear c0 c1 c2 c3 f0 f1 f2 f3
     have gV:=Lib.hid (And.intro (bC.out.1.drewN nq) (bC.out.2.trans (Ch.drewN p nq)))
     obtain⟨⟨c0,c1,c2,c3⟩,f0,f1,f2,f3⟩:=aJ gV.out.1.hh
     generalize wq.drewN nq=wp at gV c0 c1 c2 c3 f0 f1 f2 f3 ⊢
     have jQ:XI (wp.setCell ⟨p,2,none⟩ (.int .i64 ((ki:Int)+1))) p s L (ki+1) d (.slice ov L.length cv):=by
      have h9:=gV.out.1.at (k':=ki+1) (by omega)
      rwa [show((ki+1:Nat):Int)=(ki:Int)+1 by omega] at h9
     obtain⟨W8,dG⟩:∃W8,W8=wp.setCell ⟨p,2,none⟩ (.int .i64 ((ki:Int)+1)):=⟨_,rfl⟩
     rw[←dG] at jQ
     have hc8:Ch W0 W8 p:=by rw[dG];exact gV.out.2.trans (Ch.set _ _ _ _)
     have H8:=Lib.hid (And.intro jQ hc8)
     have vI:=Lib.hid dG
     clear jQ hc8 dG
     go_wp2_with fail
     rw[←vI.out]
     try rw[show(ki:Int)+1=((ki+1:Nat):Int) by omega]
     refine(dx p (ki+1) (ki+1) d s L _ _ H8.out.1).mono ?_
     rintro x w1 ⟨rfl,hw⟩
     have hw:=hw.symm
     subst hw
     go_wp2_with fail
     cases hcl:gP s a (aA L s.size (ki+1)) with
     | bad z =>
      have HR:=Lib.hid (show Px.kW L s.size (gP s) a (ki+1)=.bad 3 (a+z) by unfold Px.kW;rw[hcl])
      refine(nH p (ki+1) d a (aA L s.size (ki+1)) z s L _ _ H8.out.1 HB.out.1 HB.out.2.1 HB.out.2.2.1 hcl (HB.out.2.2.2 z hcl)).mono ?_
      rintro x w1 ⟨rfl,hbel⟩
      have HF:=Lib.hid (RP.ze (v:=.slice ov L.length cv) (d:=d) (s:=s) (L:=L) HR.out ((HA.out.2.2.trans H8.out.2).trans (Ch.of hbel)))
      clear hbel
      go_wp2_with fail
      exact⟨rfl,HF.out⟩
     | ok S =>
      have HR:=Lib.hid (show Px.kW L s.size (gP s) a (ki+1)=.ok (.mk 2 S []) (ki+1) by unfold Px.kW;rw[hcl])
      refine(kX p (ki+1) d a (aA L s.size (ki+1)) s L _ S _ H8.out.1 HB.out.1 HB.out.2.1 HB.out.2.2.1 hcl).mono ?_
      rintro x w2 ⟨u,rfl,hown,hbel⟩
      obtain⟨ou,cu,rfl⟩:=au hown
      have HO:=Lib.hid (And.intro hown hbel)
      clear hown hbel
      go_wp2_with fail
      refine(kP ou S.length cu _).mono ?_
      rintro x w3 ⟨rfl,hb3⟩
      have jA:Ch W0 w3 p:=(H8.out.2.trans (Ch.of HO.out.2)).trans (Ch.of hb3)
      have hr3:w3.heap[w.heap.size]? = some (.cells #[.int .i64 0,.slice none 0 0,.slice none 0 0] 35 (0,0)):=(jA.block _ (by omega) (by omega)).trans HA.out.2.1
      have hkp : KP (fun j => W8.heap.size ≤ j) w3 (fun w2 => bI w2 (.mk 2 S []) (.slice ou S.length cu) (.slice none 0 0)) := by
       intro w' hag
       exact oz (Row.owned (dU (S:=fun j=>W8.heap.size≤j) HO.out.1 ((Ag.of hb3).trans hag) (fun j hj=>(HO.out.1.lt j hj).1)))
      have xq:w.heap.size<W8.heap.size:=by have:=H8.out.2.size;omega
      obtain⟨⟨d0,d1,d2⟩,g0,g1,g2⟩:=ay hr3
      have HF:=Lib.hid (qw HX.out hr3 rfl (HA.out.2.2.trans jA) ((H8.out.1.moved HO.out.2).moved hb3) hkp (fun j hj=>by omega))
      clear jA hr3 hkp hb3
      go_wp2_with fail
      obtain⟨W9,hW,⟨⟨e0,e1,e2⟩,m0,m1,m2⟩,hre,bZ,eu⟩:=HF.out
      have HW:=Lib.hid hW
      clear hW HF
      rw[show(.int .i64 2:Value)=.int .i64 (RE.mk 2 S []).kind from rfl,←HW.out]
      refine bodyPost_ret (v:=.agg #[.int .i64 2,.slice ou S.length cu,.slice none 0 0]) (by simp[results,Tryz.results156,go_sem,e0,e1,e2,m0,m1,m2,RE.kind]) rfl (RP.Kv HR.out ⟨hre,bZ,eu⟩)
    | true =>
     obtain⟨j0,hsc,hj⟩:=hpe
     rcases jI.inv hsc with⟨rfl,h0⟩|⟨h0,hn,hsc2⟩
     · have hj2 : j = ki + 1 := by omega
       subst hj2
       have t1:(pk L ki != 125)=false:=by rw[h0 hkl];rfl
       clear hsc h0 hj
       go_wp2_with fail
       go_quiet ((go_at_call 112;exact Calls.quiet_of_same (bf p ki ki d s L _ _ (HI.out.1.drewN _))))
       clear c0 c1 c2 c3 f0 f1 f2 f3
       have bC:=Lib.hid (And.intro (HI.out.1.drewN nq) (HI.out.2.trans (Ch.drewN p nq)))
       obtain⟨⟨c0,c1,c2,c3⟩,f0,f1,f2,f3⟩:=aJ bC.out.1.hh
       generalize wr.drewN nq=wq at bC c0 c1 c2 c3 f0 f1 f2 f3 ⊢
       go_wp2_with fail
       go_quiet (fail)
       clear c0 c1 c2 c3 f0 f1 f2 f3
       have gV:=Lib.hid (And.intro (bC.out.1.drewN nq) (bC.out.2.trans (Ch.drewN p nq)))
       obtain⟨⟨c0,c1,c2,c3⟩,f0,f1,f2,f3⟩:=aJ gV.out.1.hh
       generalize wq.drewN nq=wp at gV c0 c1 c2 c3 f0 f1 f2 f3 ⊢
       have jQ:XI (wp.setCell ⟨p,2,none⟩ (.int .i64 ((ki:Int)+1))) p s L (ki+1) d (.slice ov L.length cv):=by
        have h9:=gV.out.1.at (k':=ki+1) (by omega)
        rwa [show((ki+1:Nat):Int)=(ki:Int)+1 by omega] at h9
       obtain⟨W8,dG⟩:∃W8,W8=wp.setCell ⟨p,2,none⟩ (.int .i64 ((ki:Int)+1)):=⟨_,rfl⟩
       rw[←dG] at jQ
       have hc8:Ch W0 W8 p:=by rw[dG];exact gV.out.2.trans (Ch.set _ _ _ _)
       have H8:=Lib.hid (And.intro jQ hc8)
       have vI:=Lib.hid dG
       clear jQ hc8 dG
       go_wp2_with fail
       rw[←vI.out]
       try rw[show(ki:Int)+1=((ki+1:Nat):Int) by omega]
       refine(dx p (ki+1) (ki+1) d s L _ _ H8.out.1).mono ?_
       rintro x w1 ⟨rfl,hw⟩
       have hw:=hw.symm
       subst hw
       go_wp2_with fail
       cases hcl:gP s a (aA L s.size (ki+1)) with
       | bad z =>
        have HR:=Lib.hid (show Px.kW L s.size (gP s) a (ki+1)=.bad 3 (a+z) by unfold Px.kW;rw[hcl])
        refine(nH p (ki+1) d a (aA L s.size (ki+1)) z s L _ _ H8.out.1 HB.out.1 HB.out.2.1 HB.out.2.2.1 hcl (HB.out.2.2.2 z hcl)).mono ?_
        rintro x w1 ⟨rfl,hbel⟩
        have HF:=Lib.hid (RP.ze (v:=.slice ov L.length cv) (d:=d) (s:=s) (L:=L) HR.out ((HA.out.2.2.trans H8.out.2).trans (Ch.of hbel)))
        clear hbel
        go_wp2_with fail
        exact⟨rfl,HF.out⟩
       | ok S =>
        have HR:=Lib.hid (show Px.kW L s.size (gP s) a (ki+1)=.ok (.mk 2 S []) (ki+1) by unfold Px.kW;rw[hcl])
        refine(kX p (ki+1) d a (aA L s.size (ki+1)) s L _ S _ H8.out.1 HB.out.1 HB.out.2.1 HB.out.2.2.1 hcl).mono ?_
        rintro x w2 ⟨u,rfl,hown,hbel⟩
        obtain⟨ou,cu,rfl⟩:=au hown
        have HO:=Lib.hid (And.intro hown hbel)
        clear hown hbel
        go_wp2_with fail
        refine(kP ou S.length cu _).mono ?_
        rintro x w3 ⟨rfl,hb3⟩
        have jA:Ch W0 w3 p:=(H8.out.2.trans (Ch.of HO.out.2)).trans (Ch.of hb3)
        have hr3:w3.heap[w.heap.size]? = some (.cells #[.int .i64 0,.slice none 0 0,.slice none 0 0] 35 (0,0)):=(jA.block _ (by omega) (by omega)).trans HA.out.2.1
        have hkp : KP (fun j => W8.heap.size ≤ j) w3 (fun w2 => bI w2 (.mk 2 S []) (.slice ou S.length cu) (.slice none 0 0)) := by
         intro w' hag
         exact oz (Row.owned (dU (S:=fun j=>W8.heap.size≤j) HO.out.1 ((Ag.of hb3).trans hag) (fun j hj=>(HO.out.1.lt j hj).1)))
        have xq:w.heap.size<W8.heap.size:=by have:=H8.out.2.size;omega
        obtain⟨⟨d0,d1,d2⟩,g0,g1,g2⟩:=ay hr3
        have HF:=Lib.hid (qw HX.out hr3 rfl (HA.out.2.2.trans jA) ((H8.out.1.moved HO.out.2).moved hb3) hkp (fun j hj=>by omega))
        clear jA hr3 hkp hb3
        go_wp2_with fail
        obtain⟨W9,hW,⟨⟨e0,e1,e2⟩,m0,m1,m2⟩,hre,bZ,eu⟩:=HF.out
        have HW:=Lib.hid hW
        clear hW HF
        rw[show(.int .i64 2:Value)=.int .i64 (RE.mk 2 S []).kind from rfl,←HW.out]
        refine bodyPost_ret (v:=.agg #[.int .i64 2,.slice ou S.length cu,.slice none 0 0]) (by simp[results,Tryz.results156,go_sem,e0,e1,e2,m0,m1,m2,RE.kind]) rfl (RP.Kv HR.out ⟨hre,bZ,eu⟩)
     · have t1 : (pk L ki != 125) = true := by simpa using hn
       have vH:=Lib.hid (show PE L true (ki+1) j from⟨j0,hsc2,hj⟩)
       clear hsc hsc2 hn hj
       go_wp2_with fail
       go_quiet ((go_at_call 112;exact Calls.quiet_of_same (bf p ki ki d s L _ _ (HI.out.1.drewN _))))
       clear c0 c1 c2 c3 f0 f1 f2 f3
       have bC:=Lib.hid (And.intro (HI.out.1.drewN nq) (HI.out.2.trans (Ch.drewN p nq)))
       obtain⟨⟨c0,c1,c2,c3⟩,f0,f1,f2,f3⟩:=aJ bC.out.1.hh
       generalize wr.drewN nq=wq at bC c0 c1 c2 c3 f0 f1 f2 f3 ⊢
       go_wp2_with fail
       have ea:(ki:Int)+1=((ki+1:Nat):Int):=by omega
       try simp only[ea]
       clear ea
       go_roundg (L.length-(ki+1))
       case measure=>omega
       case rel=>exact⟨ki+1,by omega,bC.out.1.at (by omega),bC.out.2.trans (Ch.set _ _ _ _),vH.out⟩
  · have e1 : decide ((ki : Int) < (L.length : Int)) = false := by simp; omega
    have e2:decide (ki<L.length)=false:=by simp;omega
    have hj:j=ki:=by
     cases lg with
     | false=>have h9:j=min (ki+1) L.length:=hpe;omega
     | true =>
      obtain⟨j0,hsc,hj⟩:=hpe
      have:=MH hsc
      omega
    subst hj
    clear hpe
    cases lg
    all_goals (
     go_wp2_with fail
     go_quiet (fail)
     clear c0 c1 c2 c3 f0 f1 f2 f3
     have bC:=Lib.hid (And.intro (HI.out.1.drewN nq) (HI.out.2.trans (Ch.drewN p nq)))
     obtain⟨⟨c0,c1,c2,c3⟩,f0,f1,f2,f3⟩:=aJ bC.out.1.hh
     generalize wr.drewN nq=wq at bC c0 c1 c2 c3 f0 f1 f2 f3 ⊢
     go_wp2_with fail
     go_quiet (fail)
     clear c0 c1 c2 c3 f0 f1 f2 f3
     have H8:=Lib.hid (And.intro (bC.out.1.drewN nq) (bC.out.2.trans (Ch.drewN p nq)))
     obtain⟨⟨c0,c1,c2,c3⟩,f0,f1,f2,f3⟩:=aJ H8.out.1.hh
     generalize wq.drewN nq=W8 at H8 c0 c1 c2 c3 f0 f1 f2 f3 ⊢
     go_wp2_with fail
     refine(dx p j j d s L _ _ H8.out.1).mono ?_
     rintro x w1 ⟨rfl,hw⟩
     have hw:=hw.symm
     subst hw
     go_wp2_with fail
     cases hcl:gP s a (aA L s.size j) with
     | bad z =>
      have HR:=Lib.hid (show Px.kW L s.size (gP s) a j=.bad 3 (a+z) by unfold Px.kW;rw[hcl])
      refine(nH p j d a (aA L s.size j) z s L _ _ H8.out.1 HB.out.1 HB.out.2.1 HB.out.2.2.1 hcl (HB.out.2.2.2 z hcl)).mono ?_
      rintro x w1 ⟨rfl,hbel⟩
      have HF:=Lib.hid (RP.ze (v:=.slice ov L.length cv) (d:=d) (s:=s) (L:=L) HR.out ((HA.out.2.2.trans H8.out.2).trans (Ch.of hbel)))
      clear hbel
      go_wp2_with fail
      exact⟨rfl,HF.out⟩
     | ok S =>
      have HR:=Lib.hid (show Px.kW L s.size (gP s) a j=.ok (.mk 2 S []) j by unfold Px.kW;rw[hcl])
      refine(kX p j d a (aA L s.size j) s L _ S _ H8.out.1 HB.out.1 HB.out.2.1 HB.out.2.2.1 hcl).mono ?_
      rintro x w2 ⟨u,rfl,hown,hbel⟩
      obtain⟨ou,cu,rfl⟩:=au hown
      have HO:=Lib.hid (And.intro hown hbel)
      clear hown hbel
      go_wp2_with fail
      refine(kP ou S.length cu _).mono ?_
      rintro x w3 ⟨rfl,hb3⟩
      have jA:Ch W0 w3 p:=(H8.out.2.trans (Ch.of HO.out.2)).trans (Ch.of hb3)
      have hr3:w3.heap[w.heap.size]? = some (.cells #[.int .i64 0,.slice none 0 0,.slice none 0 0] 35 (0,0)):=(jA.block _ (by omega) (by omega)).trans HA.out.2.1
      have hkp : KP (fun j => W8.heap.size ≤ j) w3 (fun w2 => bI w2 (.mk 2 S []) (.slice ou S.length cu) (.slice none 0 0)) := by
       intro w' hag
       exact oz (Row.owned (dU (S:=fun j=>W8.heap.size≤j) HO.out.1 ((Ag.of hb3).trans hag) (fun j hj=>(HO.out.1.lt j hj).1)))
      have xq:w.heap.size<W8.heap.size:=by have:=H8.out.2.size;omega
      obtain⟨⟨d0,d1,d2⟩,g0,g1,g2⟩:=ay hr3
      have HF:=Lib.hid (qw HX.out hr3 rfl (HA.out.2.2.trans jA) ((H8.out.1.moved HO.out.2).moved hb3) hkp (fun j hj=>by omega))
      clear jA hr3 hkp hb3
      go_wp2_with fail
      obtain⟨W9,hW,⟨⟨e0,e1,e2⟩,m0,m1,m2⟩,hre,bZ,eu⟩:=HF.out
      have HW:=Lib.hid hW
      clear hW HF
      rw[show(.int .i64 2:Value)=.int .i64 (RE.mk 2 S []).kind from rfl,←HW.out]
      refine bodyPost_ret (v:=.agg #[.int .i64 2,.slice ou S.length cu,.slice none 0 0]) (by simp[results,Tryz.results156,go_sem,e0,e1,e2,m0,m1,m2,RE.kind]) rfl (RP.Kv HR.out ⟨hre,bZ,eu⟩))
end Go.Proofs.YtfkmajjgkdjncaaGreatDoor
