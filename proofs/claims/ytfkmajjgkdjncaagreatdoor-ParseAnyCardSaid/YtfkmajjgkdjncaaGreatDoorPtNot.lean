/- Merged. -/
import Derived.Test.YtfkmajjgkdjncaaGreatDoorPaTot
import Derived.Test.YtfkmajjgkdjncaaGreatDoorPtSrc
import Derived.Test.YtfkmajjgkdjncaaGreatDoorRnPieces
set_option linter.unusedVariables false
set_option linter.unusedSimpArgs false
namespace Go.Proofs.YtfkmajjgkdjncaaGreatDoor
open Go.RowKit De Wd Ru
namespace Pm
section
variable {L:Its} {n:Nat} {cl:Nat→Nat→Cr}
theorem zS {k j:Nat} (h:dh L k j):k≤j:=by
 induction h with
 | stop _=>omega
 | esc _ _ _ ih=>omega
 | go _ _ _ _ ih=>omega
end
end Pm
end Go.Proofs.YtfkmajjgkdjncaaGreatDoor

namespace Go.Proofs.YtfkmajjgkdjncaaGreatDoor
open Go.RowKit De Wd Ru
namespace Pm
structure Lw (n:Nat) (t:List Int):Prop where
 lo:∀c∈t,c<128
 len:t.length≤n
theorem Lw.app {n m:Nat} {a b:List Int} (h:Lw n a) (k:Lw m b):Lw (n+m) (a++b):=
 ⟨fun c hc=>by rcases List.mem_append.1 hc with h1|h1;exact h.lo c h1;exact k.lo c h1,by rw[List.length_append];have:=h.len;have:=k.len;omega⟩
theorem Lw.one {c:Int} (h:c<128):Lw 1 [c]:=⟨fun x hx=>by simp at hx;subst hx;exact h,by simp⟩
theorem sI:∀(k m:Nat),m<16 ^ (k+1)→(d9 m).length≤k+1:=by
 intro k
 induction k with
 | zero=>intro m hm;rw[fV (by simpa using hm)];simp
 | succ k ih =>
  intro m hm
  by_cases h:m<16
  · rw[fV h];simp
  · rw [nW h, List.length_append]
    have:=ih (m / 16) (by rw[Nat.div_lt_iff_lt_mul (by decide)];rw[Nat.pow_succ] at hm;exact hm)
    simp;omega
end Pm
end Go.Proofs.YtfkmajjgkdjncaaGreatDoor

namespace Go.Proofs.YtfkmajjgkdjncaaGreatDoor
open Go.RowKit De Wd Ru Pm
theorem Kj (s:ByteArray) (hl:∀c∈sb s,c<128):Plain (all 0 (sb s)) s.size (gP s):=by
 rw[ow _ _ hl]
 refine⟨?_,?_⟩
 · intro k hk
   unfold Wd.aA
   rw[Jk]
   rw[rX] at hk
   by_cases c:k<(sb s).length
   · rw[List.getElem?_eq_getElem c];simp
   · rw[List.getElem?_eq_none (by omega)];have:=bg s;simp;omega
 · intro k t hA hk
   rw[rX] at hk
   have ht:((sb s).drop k).take (k+t.length-k)=t:=by
    apply List.ext_getElem?
    intro i
    rw[show k+t.length-k=t.length by omega]
    by_cases hi:i<t.length
    · have := hA i hi
      rw[EP] at this
      rw[List.getElem?_take_of_lt hi,List.getElem?_drop]
      rw[List.getElem?_eq_getElem (show k+i<(sb s).length by omega)] at this ⊢
      rw[List.getElem?_eq_getElem hi]
      simp[List.getD,hi] at this
      rw[this]
    · rw[List.getElem?_eq_none (show t.length≤i by omega),List.getElem?_eq_none (by simp;omega)]
   unfold gP
   rw[uR,ht]
   have hz:(s.extract k (k+t.length)).size=t.length:=by
    rw[ByteArray.size_extract]
    have:=bg s
    omega
   rw[hz]
theorem vW (s:ByteArray) (hl:∀c∈sb s,c<128) (hs:s.size≤100000):EC s (all 0 (sb s)):=by
 have hp:=(Kj s hl).aA
 have hlen:(all 0 (sb s)).length=s.size:=by rw[ow _ _ hl,rX,bg]
 have hout:∀k,¬k<(all 0 (sb s)).length→aA (all 0 (sb s)) s.size k=s.size:=fun k hk=>by unfold Wd.aA;rw[List.getElem?_eq_none (by omega)]
 refine⟨hs,fun k=>?_,fun i j hij=>?_,fun i hi=>?_,?_⟩
 · by_cases h : k ≤ (all 0 (sb s)).length
   · rw[hp k h];omega
   · rw[hout k (by omega)];exact Nat.le_refl _
 · by_cases h : j ≤ (all 0 (sb s)).length
   · rw[hp i (by omega),hp j h];exact hij
   · rw [hout j (by omega)]
     by_cases h2:i≤(all 0 (sb s)).length
     · rw[hp i h2];omega
     · rw[hout i (by omega)];exact Nat.le_refl _
 · rw[hp i (by omega),hp (i+1) (by omega)];exact Nat.le_refl _
 · exact xE _ 0 _ (Nat.le_refl _) (oJ _)
end Go.Proofs.YtfkmajjgkdjncaaGreatDoor

namespace Go.Proofs.YtfkmajjgkdjncaaGreatDoor
open Go.RowKit Ru Wd De
def AU:RE:=.mk 4 [] [.mk 2 [(97,97)] [],.mk 5 [] [.mk 2 [(98,98)] []]]
def xG:List TK:=[⟨⟨#[97]⟩,0,3,.mk 2 [(97,97)] []⟩]
def xH:List RU:=[⟨5,false,[⟨[],.mk 5 [] [] [.mk 7 [] [] [.mk 2 [⟨#[97]⟩] [] []],.mk 4 [] [] []]⟩]⟩]
theorem TB:jd xG xH=(0,0):=by kernel_rfl
theorem RY:oK xG:=by
 intro i t h
 match i,h with
 | 0,h=>cases h;exact⟨by decide,.mk 2 [(97,97)] [] (by intro x hx;simp at hx;subst hx;exact⟨by decide,by decide⟩) (by decide) (by decide) (fun i e h=>by simp at h)⟩
 | i+1,h=>simp[xG] at h
theorem Jl (k:Int) (n:List ByteArray) (h:n.length≤1000):(PT.mk k n [] []).Fit:=.mk k n [] [] h (by decide) (by decide) (fun i p h=>by simp at h)
theorem Ob (k : Int) (p : PT) (hp : p.Fit) : (PT.mk k [] [] [p]).Fit := .mk k [] [] [p] (by decide) (by decide) (by simp) (fun i q h => by
 match i,h with
 | 0,h=>cases h;exact hp
 | i+1,h=>simp at h)
theorem Oc (k : Int) (p q : PT) (hp : p.Fit) (hq : q.Fit) : (PT.mk k [] [] [p, q]).Fit := .mk k [] [] [p, q] (by decide) (by decide) (by simp) (fun i r h => by
 match i,h with
 | 0,h=>cases h;exact hp
 | 1,h=>cases h;exact hq
 | i+2,h=>simp at h)
theorem RZ:oL xH:=by
 intro i r h
 match i,h with
 | 0, h =>
  cases h
  refine⟨by decide,fun j s hs=>?_⟩
  match j,hs with
  | 0,hs=>cases hs;exact⟨by decide,Oc _ _ _ (Ob _ _ (Jl _ _ (by decide))) (Jl _ _ (by decide))⟩
  | j+1,hs=>simp at hs
 | i+1,h=>simp[xH] at h
def TD:ByteArray:=⟨#[116,111,107,32,97,32,105,110,116,32,51,32,61,32,47,97,47,10,114,117,108,101,32,53,32,123,97,125,42,32,95,10]⟩
def TF:List (Nat×Wt):=[(0,⟨1,0,3,3⟩),(4,⟨1,0,1,1⟩),(6,⟨1,0,3,3⟩),(10,⟨2,0,1,1⟩),(12,⟨3,0,1,1⟩),(14,⟨4,1,1,3⟩),(17,⟨5,0,0,1⟩),
 (18,⟨1,0,4,4⟩),(23,⟨2,0,1,1⟩),(25,⟨3,0,1,1⟩),(26,⟨1,0,1,1⟩),(27,⟨3,0,1,1⟩),(28,⟨3,0,1,1⟩),(30,⟨3,0,1,1⟩),(31,⟨5,0,0,1⟩)]
def Qz:Pm.Ws:=[(1,[116,111,107]),(1,[97]),(1,[105,110,116]),(2,[51]),(3,[61]),(4,[97]),(5,[]),(1,[114,117,108,101]),(2,[53]),(3,[123]),(1,[97]),(3,[125]),(3,[42]),(3,[95]),(5,[])]
theorem Xl:rs (sb TD)=.ok TF:=Dr (by decide) (by decide) rfl
theorem Od:TF.map (vw (sb TD))=Qz:=by decide +kernel
theorem YP (w:World):Calls Tryz.prog 14 #[.string ⟨#[97]⟩] w (lZ (.mk 2 [(97,97)] []) w):=by
 have hlow:∀c∈sb ⟨#[97]⟩,c<128:=by decide
 have hL:all 0 (sb ⟨#[97]⟩)=[(0,⟨97,1,false,false,false⟩)]:=by rw[ow _ _ hlow];rfl
 have p0:pk (all 0 (sb ⟨#[97]⟩)) 0=97:=by rw[hL];rfl
 have p1:pk (all 0 (sb ⟨#[97]⟩)) 1=-1:=by rw[hL];rfl
 have hl:(all 0 (sb ⟨#[97]⟩)).length=1:=by rw[hL];rfl
 have hA:Pm.iG (all 0 (sb ⟨#[97]⟩)) (⟨#[97]⟩:ByteArray).size (gP ⟨#[97]⟩) 0 0 (.mk 2 [(97,97)] []) 1:=
  .mk (.some (by rw[p0];decide) (.mk (.one p0 (by decide)) (.stop (by rw[p1];decide))) (.stop (by rw[p1];decide))) (.stop (by rw[p1];decide))
 exact Kk ⟨#[97]⟩ _ w (by decide) (fun p v w hx=>by rw[hl];exact uD p ⟨#[97]⟩ _ (vW _ hlow (by decide)) hA v w hx)
theorem Xm (w:World):Calls Tryz.prog 14 #[.string ⟨#[97,124,98,42]⟩] w (lZ AU w):=by
 have hlow:∀c∈sb ⟨#[97,124,98,42]⟩,c<128:=by decide
 have hL:all 0 (sb ⟨#[97,124,98,42]⟩)=[(0,⟨97,1,false,false,false⟩),(1,⟨124,1,false,false,false⟩),(2,⟨98,1,false,false,false⟩),(3,⟨42,1,false,false,false⟩)]:=by rw[ow _ _ hlow];rfl
 have p0:pk (all 0 (sb ⟨#[97,124,98,42]⟩)) 0=97:=by rw[hL];rfl
 have p1:pk (all 0 (sb ⟨#[97,124,98,42]⟩)) 1=124:=by rw[hL];rfl
 have p2:pk (all 0 (sb ⟨#[97,124,98,42]⟩)) 2=98:=by rw[hL];rfl
 have p3:pk (all 0 (sb ⟨#[97,124,98,42]⟩)) 3=42:=by rw[hL];rfl
 have p4:pk (all 0 (sb ⟨#[97,124,98,42]⟩)) 4=-1:=by rw[hL];rfl
 have hl:(all 0 (sb ⟨#[97,124,98,42]⟩)).length=4:=by rw[hL];rfl
 have hA:Pm.iG (all 0 (sb ⟨#[97,124,98,42]⟩)) (⟨#[97,124,98,42]⟩:ByteArray).size (gP ⟨#[97,124,98,42]⟩) 0 0 AU 4:=
  .mk (.some (by rw [p0]; decide) (.mk (.one p0 (by decide)) (.stop (by rw [p1]; decide))) (.stop (by rw [p1]; decide)))
   (.go p1 (.some (by rw[p2];decide) (.mk (.one p2 (by decide)) (.go p3 (.stop (by rw[p4];decide)))) (.stop (by rw[p4];decide))) (.stop (by rw[p4];decide)))
 exact Kk ⟨#[97,124,98,42]⟩ _ w (by decide) (fun p v w hx=>by rw[hl];exact uD p ⟨#[97,124,98,42]⟩ _ (vW _ hlow (by decide)) hA v w hx)
theorem TG (w : World) : Calls Tryz.prog 14 #[.string ⟨#[97, 41]⟩] w fun x w' => x = .returned (.tuple #[.agg #[.int .i64 0, .slice none 0 0, .slice none 0 0], .int .i64 3, .int .i64 1]) ∧ Below w.heap.size w w' := by
 have hlow:∀c∈sb ⟨#[97,41]⟩,c<128:=by decide
 have hL:all 0 (sb ⟨#[97,41]⟩)=[(0,⟨97,1,false,false,false⟩),(1,⟨41,1,false,false,false⟩)]:=by rw[ow _ _ hlow];rfl
 have p0:pk (all 0 (sb ⟨#[97,41]⟩)) 0=97:=by rw[hL];rfl
 have p1:pk (all 0 (sb ⟨#[97,41]⟩)) 1=41:=by rw[hL];rfl
 have hl:(all 0 (sb ⟨#[97,41]⟩)).length=2:=by rw[hL];rfl
 have hpl:aA (all 0 (sb ⟨#[97,41]⟩)) (⟨#[97,41]⟩:ByteArray).size 1=1:=by rw[hL];rfl
 have hA:Pm.iG (all 0 (sb ⟨#[97,41]⟩)) (⟨#[97,41]⟩:ByteArray).size (gP ⟨#[97,41]⟩) 0 0 (.mk 2 [(97,97)] []) 1:=
  .mk (.some (by rw[p0];decide) (.mk (.one p0 (by decide)) (.stop (by rw[p1];decide))) (.stop (by rw[p1];decide))) (.stop (by rw[p1];decide))
 have h:=Jm ⟨#[97,41]⟩ _ w (by decide) 1 (by rw[hl];decide) (fun p v w hx=>uD p ⟨#[97,41]⟩ _ (vW _ hlow (by decide)) hA v w hx)
 rw[hpl] at h
 exact h
theorem TJ : Pm.u7 Qz (fun k t => Pm.LG Qz k t ⟨#[97]⟩ ∧ t.re = .mk 2 [(97, 97)] []) 0 xG xH := by
 have hp:Pm.iT Qz 0 9 (.mk 5 [] [] [.mk 7 [] [] [.mk 2 [⟨#[97]⟩] [] []],.mk 4 [] [] []]) 14:=by
  refine .mk (.mk (.mk (.tok rfl (.last rfl (by decide +kernel) (by decide)) rfl) (.go rfl (.stop (by unfold Pm.sg;decide)))) (.go (.inr (.inl rfl)) (.mk (.well rfl) (.stop (by unfold Pm.sg;decide))) (.stop ?_))) (.stop (by unfold Pm.sg;decide))
  unfold Pm.jq Pm.sg;decide
 refine .tok ⟨⟨rfl,rfl,rfl,by decide +kernel,rfl,rfl,by decide +kernel,.inl rfl,by decide⟩,rfl⟩ rfl (.rule ⟨rfl,by decide +kernel,by decide,fun h=>(by cases h),fun _=>⟨by decide,.last (.bare (by unfold Pm.sg;decide) hp) (by unfold Pm.sg;decide)⟩⟩ rfl (.fin rfl))
theorem TL (w:World):Calls Tryz.prog 10 #[.string ⟨#[116,111,107,32,97,32,105,110,116,32,51,32,61,32,47,97,47,10,114,117,108,101,32,53,32,123,97,125,42,32,95,10]⟩] w (Cz xG xH w):=
 LH TD TF xG xH w (by decide) Xl (by rw [Od]; decide) _ (by rw [Od]; exact TJ) (by decide) (by
  rw[Od]
  exact fun k t h=>⟨_,h.1,fun w=>by rw[h.2];exact YP w⟩) (by decide) (by decide) RY RZ (by rw[TB])
end Go.Proofs.YtfkmajjgkdjncaaGreatDoor

set_option maxHeartbeats 4000000
set_option maxRecDepth 100000
namespace Go.Proofs.YtfkmajjgkdjncaaGreatDoor
open Go.RowKit De Wd
theorem Oe (p k k0 d0:Nat) (U:List Uw) (V:Pm.Ws) (hV:iq V U) (wv tv rv ti ri:Value) (dz dA dB dD:Value) (aD:List (TK×Value×Value)) (aG:List (RU×Value)) (lt lr:List Int) (nm tx:ByteArray) (cls c:Int) (z n5:Nat) (w0 w:World) (h0:PI w0 p U k0 d0 wv dz dA dB dD) (aC:LI w0 w p U k wv tv rv ti ri aD aG lt lr) (hT0:V[k]? = some (1,[116,111,107])) (hT:XL V U k nm tx cls n5) (hre:∀w,Calls Tryz.prog 14 #[.string tx] w (oM c z w)) (hc0:c≠0) (hzn:n5+1+z≤1000000) :
 Calls Tryz.prog 23 #[.pointer (some ⟨p,0,none⟩)] w fun x w'=>x=dL c ((n5+1+z:Nat):Int)∧Ch w0 w' p:=by
 have dw:=aC.x.lt
 have hp0:=h0.lt
 have hkl:=aC.x.le
 have hsm:=aC.x.small
 have rG:=aC.n3
 have sJ:=aC.c.size
 obtain⟨o5,c5,hv5⟩:=au aC.it
 subst hv5
 have hfd0:∀(a c:Int) (b:ByteArray) (w:World),(Instr.field 72 (.agg #[.int .i64 a,.string b,.int .i64 c]) 0).run Tryz.prog w=.ok (.int .i64 a) w:=fun _ _ _ _=>by kernel_rfl
 have CB:∀(a c:Int) (b:ByteArray) (w:World),(Instr.field 72 (.agg #[.int .i64 a,.string b,.int .i64 c]) 2).run Tryz.prog w=.ok (.int .i64 c) w:=fun _ _ _ _=>by kernel_rfl
 obtain⟨⟨qk,qb,qn⟩,hqq⟩:=hV.at hkl
 obtain⟨e1,e2⟩:=jM (b:=⟨#[116,111,107]⟩) hV hqq hT0
 dsimp only at e1 e2
 obtain rfl:(1:Int)=qk:=e1.symm
 obtain rfl:⟨#[116,111,107]⟩=qb:=e2.symm
 obtain⟨ii,hi0,hi1,hi2,hi3⟩:=qj
 have aU:=Lib.hid aC
 have HX0:=Lib.hid h0
 have gK:=Lib.hid (And.intro hT hT0)
 have HQ:=Lib.hid hqq
 have oN:=Lib.hid hre
 clear aC h0 hT hT0 hre hqq e1 e2
 go_enter Tryz.func23,Tryz.ntmps23
 go_wp2_with fail
 refine(bD p k 0 U wv tv rv (.slice o5 lt.length c5) ri ((1:Int),⟨#[116,111,107]⟩,qn) _ aU.out.x HQ.out).mono ?_
 rintro x w1 ⟨rfl,hb1⟩
 dsimp only[iZ]
 have H1:=Lib.hid (aU.out.ch hp0 (Ch.of hb1) (aU.out.x.moved hb1) (Nat.le_refl _))
 clear hb1
 go_wp2_with fail
 refine(dO 5 _).mono ?_
 rintro x lQ ⟨b12,rfl,hbx,hbt⟩
 have aF:=Lib.hid (And.intro (H1.out.x.moved hbt) (And.intro hbx hbt))
 clear hbx hbt
 go_wp2_with fail
 refine(oO p k 0 U wv tv rv (.slice o5 lt.length c5) ri 5 b12 ((1:Int),⟨#[116,111,107]⟩,qn) _ (by decide) aF.out.1 HQ.out aF.out.2.1).mono ?_
 rintro x w2 ⟨rfl,hc2,hx2⟩
 replace hc2:=(Ch.of (p:=p) aF.out.2.2).trans hc2
 rw[show iU 5 ((1:Int),⟨#[116,111,107]⟩,qn)=false from rfl] at hx2 ⊢
 rw[if_neg (by decide)] at hx2
 have H2:=Lib.hid (H1.out.ch hp0 hc2 hx2 (Nat.le_refl _))
 clear hc2 hx2
 go_wp2_with fail
 refine(aH 1 ⟨#[116,111,107]⟩ _).mono ?_
 rintro x vg ⟨b13,kD,rfl,hbx,hbt⟩
 have bL:=Lib.hid (And.intro (H2.out.x.moved hbt) (And.intro hbx hbt))
 clear hbx hbt
 go_wp2_with fail
 refine(bV p k 0 U wv tv rv (.slice o5 lt.length c5) ri 1 ⟨#[116,111,107]⟩ b13 kD ((1:Int),⟨#[116,111,107]⟩,qn) _ (by decide) bL.out.1 HQ.out bL.out.2.1 ?_ ?_).mono ?_
 · intro e;have h1:=bL.out.1.hh;rw[←e,bL.out.2.1.h1] at h1;cases h1
 · intro e;have h1:=bL.out.1.hh;rw[←e,bL.out.2.1.h2] at h1;cases h1
 rintro x w3 ⟨rfl,hc3,hx3⟩
 replace hc3:=(Ch.of (p:=p) bL.out.2.2).trans hc3
 rw[show tst 1 ⟨#[116,111,107]⟩ ((1:Int),⟨#[116,111,107]⟩,qn)=true from by rw[iV hV HQ.out (by decide)];exact decide_eq_true gK.out.2] at hx3 ⊢
 rw[if_pos rfl] at hx3
 have gQ:=H2.out.ch hp0 hc3 hx3 (Nat.le_succ _)
 clear hc3 hx3
 have hpz:p<w3.heap.size:=lt_of_some gQ.x.hh
 have uS:w0.heap.size≤w3.heap.size:=gQ.c.size
 obtain⟨⟨c0,c1,c2,c3,c4,vo,c6⟩,f0,f1,f2,f3,f4,f5,f6⟩:=aM gQ.x.hh
 have H4:=Lib.hid gQ
 have hpn:¬p=w3.heap.size:=by omega
 have uT:¬w3.heap.size=p:=by omega
 clear gQ
 go_wp2_with (at_builtin;refine aW _ rfl _ _ 31 rfl w0.heap.size 3 ii _ 1 8 Tryz.underlying31 hi0 hi1 hi2 hi3 rfl (by decide) (.slice o5 lt.length c5) lt.length (lt.map (Value.int .i64)) rfl (by repeat (first|exact H4.out.it|refine World.ownsRow.alloc ?_ _|refine bX ?_)) _ 1 _ rfl (by exact bE rfl (by simp)) rfl (by simp[Value.oneCell']) (by unfold maxLen;omega) (by omega) (by simp;omega) ?_;intro v9 w9 aI fu dP bF;obtain⟨o9,c9,rfl⟩:=au aI;have iy:=(bF.block p hp0).trans (aB (by repeat (first|exact Below.refl _ _|refine Below.drew ?_|refine ah ?_ _)) H4.out.x.hh);obtain⟨⟨z0,z1,z2,z3,z4,z5,z6⟩,y0,y1,y2,y3,y4,y5,y6⟩:=aM iy)
 have kM:=LI.Kl HX0.out H4.out (q:=(qn:Int)) (by repeat (first|exact Below.refl _ _|refine Below.drew ?_|refine ah ?_ _)) aI fu dP bF (by omega)
 have H5:=Lib.hid kM
 clear kM aI fu dP bF iy z0 z1 z2 z3 z4 z5 z6 y0 y1 y2 y3 y4 y5 y6 c0 c1 c2 c3 c4 vo c6 f0 f1 f2 f3 f4 f5 f6
 refine(LJ p k k0 d0 U V hV wv tv rv _ ri dz dA dB dD aD aG _ lr nm tx cls c z n5 w0 _ HX0.out H5.out gK.out.1 oN.out hc0 hzn).mono ?_
 rintro x w6 ⟨rfl,hc6⟩
 have HF:=Lib.hid (H5.out.c.trans hc6)
 clear hc6
 go_wp2_with fail
 exact⟨rfl,rfl,HF.out⟩
end Go.Proofs.YtfkmajjgkdjncaaGreatDoor

set_option maxHeartbeats 4000000
set_option maxRecDepth 100000
namespace Go.Proofs.YtfkmajjgkdjncaaGreatDoor
open Go.RowKit Ru Wd De
def Jo:ByteArray:=⟨#[116,111,107,32,97,32,105,110,116,32,51,32,61,32,47,40,47]⟩
def Km:List (Nat×Wt):=[(0,⟨1,0,3,3⟩),(4,⟨1,0,1,1⟩),(6,⟨1,0,3,3⟩),(10,⟨2,0,1,1⟩),(12,⟨3,0,1,1⟩),(14,⟨4,1,1,3⟩)]
theorem TM:rs (sb Jo)=.ok Km:=Dr (by decide) (by decide) rfl
theorem R3 (w:World):Calls Tryz.prog 14 #[.string ⟨#[40]⟩] w (oM 3 1 w):=by
 have hlow:∀c∈sb ⟨#[40]⟩,c<128:=by decide
 have hL:all 0 (sb ⟨#[40]⟩)=[(0,⟨40,1,false,false,false⟩)]:=by rw[ow _ _ hlow];rfl
 have p0:pk (all 0 (sb ⟨#[40]⟩)) 0=40:=by rw[hL];rfl
 have p1:pk (all 0 (sb ⟨#[40]⟩)) 1=-1:=by rw[hL];rfl
 have hpl:aA (all 0 (sb ⟨#[40]⟩)) (⟨#[40]⟩:ByteArray).size 1=1:=by rw[hL];rfl
 have hS:=vW ⟨#[40]⟩ hlow (by decide)
 have hA:Pm.iG (all 0 (sb ⟨#[40]⟩)) (⟨#[40]⟩:ByteArray).size (gP ⟨#[40]⟩) 1 1 (.mk 1 [] []) 1:=.mk (.none (by rw[p1];decide)) (.stop (by rw[p1];decide))
 refine LK ⟨#[40]⟩ 3 1 w (by decide) (fun p v w hx=>Og hS.sc p0 (fun v w hx=>?_) v w hx)
 have h:=xI p 1 0 (aA (all 0 (sb ⟨#[40]⟩)) (⟨#[40]⟩:ByteArray).size 0) 1 ⟨#[40]⟩ _ v _ w hx (by decide) (by rw[p1];decide) (fun w hx=>uD p ⟨#[40]⟩ _ hS hA v w hx)
 rw[hpl] at h
 exact h
theorem R4 (w:World):Calls Tryz.prog 10 #[.string Jo] w (zT 3 16 w):=by
 refine ER Jo Km 3 16 w (by decide) TM (by decide +kernel) (by decide) (by decide) ?_
 intro p wv w0 tv rv ti ri aC hV
 refine(Oe p 0 0 0 (nD Jo Km) (Km.map (vw (sb Jo))) hV wv tv rv ti ri tv rv ti ri [] [] [] [] ⟨#[97]⟩ ⟨#[40]⟩ 3 3 1 14 w0 w0 aC.x aC (by decide +kernel) ⟨by decide +kernel,by decide +kernel,by decide +kernel,by decide +kernel,by decide +kernel,by decide +kernel,by decide⟩ R3 (by decide) (by decide)).mono ?_
 rintro x w' ⟨rfl,hc⟩
 exact⟨rfl,hc⟩
theorem oP (w : World) : Calls Tryz.prog 9 #[] w fun e w' => e = .returned (.bool true) ∧ Below w.heap.size w w' := by
 have HF:=Lib.hid R4
 unfold Jo at HF
 go_enter Tryz.func9,Tryz.ntmps9
 go_wp2_with fail
 refine(Xm _).mono ?_
 rintro x w1 ⟨s1,l1,rfl,hk1,hb1⟩
 obtain⟨⟨o1,q1,rfl⟩,⟨o2,q2,rfl⟩⟩:=hk1.here.form
 rw[show AU.kind=4 from rfl]
 have hbn:=ah (Below.refl w1.heap.size w1) (.cells #[.int .i64 4,.slice o1 AU.set.length q1,.slice o2 AU.parts.length q2] 35)
 have H1:=Lib.hid (And.intro (hk1.here.moved hbn) (And.intro (heap_alloc_new w1 (.cells #[.int .i64 4,.slice o1 AU.set.length q1,.slice o2 AU.parts.length q2] 35)) (ak hb1 hbn)))
 clear hk1 hb1 hbn
 go_wp2_with fail
 refine(TG _).mono ?_
 rintro x w2 ⟨rfl,hb2⟩
 have hbn:=ah (Below.refl w2.heap.size w2) (.cells #[.int .i64 0,.slice none 0 0,.slice none 0 0] 35)
 have hbb:=ak hb2 hbn
 have H2:=Lib.hid (And.intro (H1.out.1.moved hbb) (And.intro (aB hbb H1.out.2.1) (ak H1.out.2.2 hbb)))
 clear hb2 hbn hbb H1
 go_wp2_with fail
 refine(TL _).mono ?_
 rintro x w3 ⟨tv,rv,rfl,hT,hR,hb3⟩
 obtain⟨o3,c3,XM,XO,XP,XQ,XR,XT,XU,lo3,XV,XW,rfl,-⟩:=hT.all
 obtain⟨o4,c4,rfl⟩:=hR.form
 have hbn:=ah (Below.refl w3.heap.size w3) (.cells #[.slice o3 xG.length c3,.slice o4 xH.length c4] 26)
 have hbb:=ak hb3 hbn
 have H3:=Lib.hid (And.intro (H2.out.1.moved hbb) (And.intro (aB hbb H2.out.2.1) (And.intro (ak H2.out.2.2 hbb) (And.intro (hT.moved hbn) (And.intro (hR.moved hbn) (heap_alloc_new w3 (.cells #[.slice o3 xG.length c3,.slice o4 xH.length c4] 26)))))))
 clear hb3 hbn hbb hT hR H2
 go_wp2_with fail
 refine(HF.out _).mono ?_
 rintro x w4 ⟨rfl,hb4⟩
 have hbn:=ah (Below.refl w4.heap.size w4) (.cells #[.slice none 0 0,.slice none 0 0] 26)
 have hbb:=ak hb4 hbn
 have H4:=Lib.hid (And.intro (H3.out.1.moved hbb) (And.intro (aB hbb H3.out.2.1) (And.intro (ak H3.out.2.2.1 hbb) (And.intro (H3.out.2.2.2.1.moved hbb) (And.intro (H3.out.2.2.2.2.1.moved hbb) (aB hbb H3.out.2.2.2.2.2))))))
 clear hb4 hbn hbb H3
 go_wp2_with fail
 refine(ES _).mono ?_
 rintro x w5 ⟨rfl,hb5⟩
 obtain⟨g1,g2,g3,g4,g5,g6⟩:=And.intro (H4.out.1.moved hb5) (And.intro (aB hb5 H4.out.2.1) (And.intro (ak H4.out.2.2.1 hb5) (And.intro (H4.out.2.2.2.1.moved hb5) (And.intro (H4.out.2.2.2.2.1.moved hb5) (aB hb5 H4.out.2.2.2.2.2)))))
 have HB:=Lib.hid (ak g3 (ah (Below.refl w5.heap.size w5) (.cells #[.slice none 0 0,.slice none 0 0] 26)))
 have k1:w1.heap.size<w5.heap.size:=lt_of_some g2
 have k3:w3.heap.size<w5.heap.size:=lt_of_some g6
 have n1:¬w1.heap.size=w5.heap.size:=by omega
 have n3:¬w3.heap.size=w5.heap.size:=by omega
 clear hb5 H4 g3
 obtain⟨⟨a0,a1,a2⟩,_⟩:=ay g2
 obtain⟨⟨d0,d1⟩,_⟩:=dV g6
 obtain⟨b1,f1,q9,s9,l9,e9,hl1,p0,p1,p2,_⟩:=g1.part (i:=1) (p:=.mk 5 [] [.mk 2 [(98,98)] []]) rfl
 obtain⟨ps,hps,hrow,_⟩:=g4
 obtain⟨⟨t1,ta,tb⟩,rfl⟩:=List.length_eq_one_iff.1 (show ps.length=1 by have:=congrArg List.length hps;simpa [xG] using this)
 obtain rfl:t1=⟨⟨#[97]⟩,0,3,.mk 2 [(97,97)] []⟩:=by simpa [xG] using hps
 obtain⟨b2,f2,q8,e8,hl2,hc8⟩:=hrow.cells' (by decide)
 have h8:=hc8 2 (.int .i64 3) rfl
 obtain⟨pr,hpr,hrr,hst⟩:=g5
 obtain⟨⟨r1,ra⟩,rfl⟩:=List.length_eq_one_iff.1 (show pr.length=1 by have:=congrArg List.length hpr;simpa [xH] using this)
 obtain rfl:r1=⟨5,false,[⟨[],.mk 5 [] [] [.mk 7 [] [] [.mk 2 [⟨#[97]⟩] [] []],.mk 4 [] [] []]⟩]⟩:=by simpa [xH] using hpr
 obtain⟨b3,f3,q7,e7,hl3,eF⟩:=hrr.cells' (by decide)
 have h7:=eF 2 ra rfl
 obtain⟨pt,hpt,hrt,_⟩:=hst 0 _ rfl
 obtain⟨⟨s1,sa⟩,rfl⟩:=List.length_eq_one_iff.1 (show pt.length=1 by have:=congrArg List.length hpt;simpa using this)
 obtain rfl:s1=⟨[],.mk 5 [] [] [.mk 7 [] [] [.mk 2 [⟨#[97]⟩] [] []],.mk 4 [] [] []]⟩:=by simpa using hpt
 obtain⟨b4,f4,q6,e6,hl4,hc6⟩:=hrt.cells' (by show 0<1;decide)
 have h6:=hc6 1 (.int .i64 5) rfl
 dsimp only at e6
 subst e6
 simp only[Value.slice.injEq,true_and] at e9 e8 e7
 obtain⟨rfl,rfl⟩:=e9
 obtain⟨rfl,rfl⟩:=e8
 obtain⟨rfl,rfl⟩:=e7
 have p3:w5.cell? ⟨b1,f1+3,none⟩=some (.int .i64 5):=by simpa [RE.kind] using p0
 clear hc6 eF hc8 hpt hrt hst hpr hrr hps hrow p0 p1 p2 g1 g2 g6
 rw[show AU.set.length=0 from rfl,show AU.parts.length=2 from rfl] at *
 rw[show xG.length=1 from rfl,show xH.length=1 from rfl] at *
 have m1:¬b1=w5.heap.size:=by omega
 have m2:¬b2=w5.heap.size:=by omega
 have m3:¬b3=w5.heap.size:=by omega
 have m4:¬b4=w5.heap.size:=by omega
 go_wp2_with fail
 go_ret
 exact⟨rfl,HB.out⟩
end Go.Proofs.YtfkmajjgkdjncaaGreatDoor

namespace Go.Proofs.YtfkmajjgkdjncaaGreatDoor
open Go.RowKit De Wd
def Xn (s:ByteArray) (w:World):Px.Rs→Ending→World→Prop
 | .ok e k=>if k=(all 0 (sb s)).length then lZ e w else oM 3 (aA (all 0 (sb s)) s.size k) w
 | .bad c z=>oM c z w
theorem TN (s:ByteArray) (w:World) (hs:s.size≤100000) (R:Px.Rs) (hR:Px.iG (all 0 (sb s)) s.size (gP s) 0 0 R) (hG:Px.Good (all 0 (sb s)) s.size 0 R) (hD:∀p,CF p s (all 0 (sb s))) :
 Calls Tryz.prog 14 #[.string s] w (Xn s w R):=by
 have hX:=LM s hs
 have hS:=CG s hs
 match R,hR,hG with
 | .bad c z,hR,hG=>exact LK s c z w hs (fun p v w hx=>xJ p s _ hS hX (hD p) hR v w hx)
 | .ok e k, hR, hG =>
  by_cases h:k=(all 0 (sb s)).length
  · show Calls Tryz.prog 14 #[.string s] w (if k = (all 0 (sb s)).length then lZ e w else oM 3 (aA (all 0 (sb s)) s.size k) w)
    rw[if_pos h]
    subst h
    exact Kk s e w hs (fun p v w hx=>xJ p s _ hS hX (hD p) hR v w hx)
  · show Calls Tryz.prog 14 #[.string s] w (if k = (all 0 (sb s)).length then lZ e w else oM 3 (aA (all 0 (sb s)) s.size k) w)
    rw[if_neg h]
    exact Jm s e w hs k (by have:=hG.2;omega) (fun p v w hx=>xJ p s _ hS hX (hD p) hR v w hx)
theorem TP (s:ByteArray) (hs:s.size≤100000):∃R,Px.iG (all 0 (sb s)) s.size (gP s) 0 0 R∧Px.Good (all 0 (sb s)) s.size 0 R:=
 Px.tot (LM s hs) _ 0 (Nat.zero_add _) 0 (by omega)
end Go.Proofs.YtfkmajjgkdjncaaGreatDoor

namespace Go.Proofs.YtfkmajjgkdjncaaGreatDoor
open Go.RowKit De Wd Ru
theorem ET {L:Its} (hpl:Sc L):∀(f k:Nat) (acc A:List Pc),kV L f acc k=.ok A→A.length≤acc.length+(L.length-k)
 | 0,k,acc,A,h=>by simp[kV] at h
 | f + 1, k, acc, A, h => by
  unfold kV at h
  split at h
  · simp only[Except.ok.injEq] at h;subst h;omega
  · split at h
    · cases h
    · rename_i q k' he
      obtain⟨h1,h2,_⟩:=y8 hpl he
      have:=ET hpl f k' (acc++[q]) A h
      rw[List.length_append,List.length_singleton] at this
      omega
theorem zU:∀(P:List Pc) (f:Int),(eP f P).length≤P.length+1
 | [],f=>by unfold eP;split<;>simp
 | p::P,f=>by have:=zU P p.2;unfold eP;split<;>simp<;>omega
theorem Kn {P:List Pc} (h:Nf (-1) P) (h2:Bd P):sK (aY P):=by
 intro p hp
 obtain⟨q,hq,rfl⟩:=List.mem_map.1 hp
 have ha:=h.pos q hq
 have hb:=h2 q hq
 have h1:=qM (p:=q.1) (by omega) (by omega)
 have h2:=qM (p:=q.2-1) (by omega) (by omega)
 simp only;omega
theorem Oh {L:Its} {n:Nat} {S:List Pc} (hpl:Sc L) (hl:L.length≤900) (h:kE L n=.ok S):S.length≤1000∧sK S:=by
 unfold kE at h
 split at h
 · cases h
 · rename_i acc he
   have h1:=ET hpl _ _ _ _ he
   have hp:=sM acc
   simp only[List.length_nil] at h1
   by_cases hb:pk L 0=94
   · simp only [hb, if_true] at h
     have hc:=zU (aT acc) 0
     split at h
     · cases h
     · simp only [Cr.ok.injEq] at h
       subst h
       exact⟨by unfold nt;unfold aY;rw[List.length_map];omega,by unfold nt;exact Kn (vv acc).1 (vv acc).2.1⟩
   · simp only [hb, if_false] at h
     split at h
     · cases h
     · simp only [Cr.ok.injEq] at h
       subst h
       exact⟨by unfold nE;unfold aY;rw[List.length_map];omega,by unfold nE;exact Kn (qN acc) (vB acc)⟩
theorem R5 {s:ByteArray} {a b:Nat} {S:List Pc} (hs:s.size≤900) (h:gP s a b=.ok S):S.length≤1000∧sK S:=by
 unfold gP at h
 refine Oh (xE _ 0 _ (Nat.le_refl _) (oJ _)) ?_ h
 have h1:=ql 0 (sb (s.extract a b))
 rw[bg,ByteArray.size_extract] at h1
 omega
theorem Oi (k:Int):(RE.mk k [] []).Fit:=.mk k [] [] (fun p hp=>by cases hp) (by simp) (by simp) (fun i e h=>by simp at h)
theorem y9 {S:List Pc} (h:S.length≤1000∧sK S):(RE.mk 2 S []).Fit:=.mk 2 S [] h.2 h.1 (by simp) (fun i e h=>by simp at h)
theorem R6 (k : Int) {p : RE} (hp : p.Fit) : (RE.mk k [] [p]).Fit := .mk k [] [p] (fun q hq => by cases hq) (by simp) (by simp) (fun i e h => by
 match i,h with
 | 0,h=>cases h;exact hp
 | i+1,h=>simp at h)
theorem Jp (k : Int) {p q : RE} (hp : p.Fit) (hq : q.Fit) : (RE.mk k [] [p, q]).Fit := .mk k [] [p, q] (fun x hx => by cases hx) (by simp) (by simp) (fun i e h => by
 match i,h with
 | 0,h=>cases h;exact hp
 | 1,h=>cases h;exact hq
 | i+2,h=>simp at h)
theorem R7 {L:Its} {a e:RE} {k k':Nat} (h:vC L a k e k'):a.Fit→e.Fit:=by
 induction h with
 | stop _=>exact id
 | go _ _ ih=>exact fun h=>ih (R6 5 h)
def vX:Px.Rs→Prop
 | .ok e _=>e.Fit
 | .bad _ _=>True
theorem TQ {L:Its} {n:Nat} {cl:Nat→Nat→Cr} (hsc:Sc L) (hcl:∀a b S,cl a b=.ok S→S.length≤1000∧sK S) {d k:Nat} {R:Px.Rs} (h:Px.iG L n cl d k R):vX R:=by
 refine Px.iG.rec (motive_1:=fun _ _ R _=>vX R) (motive_2:=fun _ a _ R _=>a.Fit→vX R) (motive_3:=fun _ _ R _=>vX R) (motive_4:=fun _ a _ R _=>a.Fit→vX R) (motive_5:=fun _ _ R _=>vX R) (motive_6:=fun _ _ R _=>vX R) ?_ ?_ ?_ ?_ ?_ ?_ ?_ ?_ ?_ ?_ ?_ ?_ ?_ ?_ ?_ ?_ ?_ ?_ ?_ ?_ ?_ h
 · intro _ _ _ _ _ _ _ h1 h2;exact h2 h1
 · intros;trivial
 · intro _ _ _ _ h;exact h
 · intro _ _ _ _ _ _ _ _ _ h1 h2 h;exact h2 (Jp 4 h h1)
 · intros;trivial
 · intros;exact Oi 1
 · intro _ _ _ _ _ _ _ _ h1 h2;exact h2 h1
 · intros;trivial
 · intro _ _ _ _ h;exact h
 · intro _ _ _ _ _ _ _ _ _ h1 h2 h;exact h2 (Jp 3 h h1)
 · intros;trivial
 · intro _ _ _ _ _ _ _ r h1;exact R7 r h1
 · intros;trivial
 · intro _ _ _ _ _ _ _ _ h1;exact h1
 · intros;trivial
 · intros;trivial
 · intros;trivial
 · intro _ _ j R _ _ c
   subst c
   unfold Px.nZ
   split
   · trivial
   · rename_i S hS
     split
     · exact y9 (hcl _ _ _ hS)
     · trivial
 · intro _ _ j R _ _ c
   subst c
   unfold Px.kW
   split
   · trivial
   · rename_i S hS
     exact y9 (hcl _ _ _ hS)
 · intros;exact y9 ⟨by unfold nt;unfold aY;rw[List.length_map];have:=zU (aT [(10,10)]) 0;have:=sM [(10,10)];simp at *;omega,by unfold nt;exact Kn (vv _).1 (vv _).2.1⟩
 · intro _ k r h ha
   refine y9 ⟨by simp,fun p hp=>?_⟩
   rw[List.mem_singleton.1 hp]
   have hk:=hsc.pk k
   rw[h] at hk
   unfold jr at hk
   simp only
   omega
theorem Oj (s:ByteArray) (hs:s.size≤900) (hD:∀p,CF p s (all 0 (sb s))) (w:World) :
 Calls Tryz.prog 14 #[.string s] w fun x w'=>(∃(c:Int) (z:Nat),oM c z w x w'∧c≠0∧c≠2∧z≤s.size)∨∃e:RE,e.Fit∧lZ e w x w':=by
 obtain⟨R,hR,hG⟩:=TP s (by omega)
 have hS:=CG s (by omega)
 have hF:=TQ hS.sc (fun a b S h=>R5 hs h) hR
 refine(TN s w (by omega) R hR hG hD).mono ?_
 intro x w' h
 match R,hG,hF,h with
 | .bad c z, hG, hF, h =>
  obtain⟨h1,h2⟩:=hG
  exact .inl ⟨c,z,h,by omega,by omega,h2⟩
 | .ok e k, hG, hF, h =>
  have h:(if k=(all 0 (sb s)).length then lZ e w else oM 3 (aA (all 0 (sb s)) s.size k) w) x w':=h
  by_cases hk:k=(all 0 (sb s)).length
  · rw [if_pos hk] at h
    exact .inr ⟨e,hF,h⟩
  · rw [if_neg hk] at h
    exact .inl ⟨3,_,h,by decide,by decide,hS.lim k⟩
end Go.Proofs.YtfkmajjgkdjncaaGreatDoor

namespace Go.Proofs.YtfkmajjgkdjncaaGreatDoor
open Go.RowKit De Wd
namespace Wd
theorem TR (a:Nat) (l:List Int):∀(b:Nat) (x:Wt),(b,x)∈(sc a l).1→a≤b∧b-a<l.length∧wd (l.drop (b-a))=some x∧x.k≠0:=by
 refine EU (P:=fun a l=>∀(b:Nat) (x:Wt),(b,x)∈(sc a l).1→a≤b∧b-a<l.length∧wd (l.drop (b-a))=some x∧x.k≠0) ?_ ?_ ?_ a l
 · intro a;rw[qO];simp
 · intro a l hl h;rw[vD hl h];simp
 · intro a l x h ih
   have h1:=(kr h).1
   have h2:=(kr h).2.1
   have hd:∀b,a+x.z≤b→(l.drop x.z).drop (b-(a+x.z))=l.drop (b-a):=by
    intro b hb;rw[List.drop_drop];congr 1;omega
   have j1:∀(b:Nat) (y:Wt),(b,y)∈(sc (a+x.z) (l.drop x.z)).1→a≤b∧b-a<l.length∧wd (l.drop (b-a))=some y∧y.k≠0:=by
    intro b y hk
    obtain⟨q1,q2,q3,q4⟩:=ih b y hk
    rw[hd b q1] at q3
    rw[List.length_drop] at q2
    exact⟨by omega,by omega,q3,q4⟩
   intro b y hy
   rw[rY h] at hy
   by_cases hk:x.k=0
   · rw[if_pos hk] at hy;exact j1 b y hy
   · rw [if_neg hk] at hy
     rcases List.mem_cons.1 hy with e|e
     · simp only [Prod.mk.injEq] at e
       obtain⟨rfl,rfl⟩:=e
       refine⟨Nat.le_refl _,by rw[Nat.sub_self];omega,by rw[Nat.sub_self,List.drop_zero];exact h,hk⟩
     · exact j1 b y e
theorem TS {l:List Int} {x:Wt} (h:wd l=some x) (hk:x.k=2):x.o=0∧x.n=rn dN l∧1≤x.n:=by
 cases l with
 | nil=>simp[wd] at h
 | cons c t =>
  simp only[wd] at h
  split at h
  · simp only[Option.some.injEq] at h;subst h;simp at hk
  split at h
  · simp only[Option.some.injEq] at h;subst h;simp at hk
  split at h
  · simp only[Option.some.injEq] at h;subst h;simp at hk
  split at h
  · obtain⟨n,_,rfl⟩:=Option.map_eq_some_iff.1 h;simp at hk
  split at h
  · simp only[Option.some.injEq] at h;subst h;simp at hk
  split at h
  · rename_i hd
    simp only[Option.some.injEq] at h;subst h
    exact⟨rfl,rfl,vE hd⟩
  split at h
  · simp only[Option.some.injEq] at h;subst h;simp at hk
  · cases h
theorem TT {l:List Int} {W:List (Nat×Wt)} (h:rs l=.ok W):W=(sc 0 l).1∧(sc 0 l).2=none:=by
 unfold rs at h
 split at h
 · cases h
 · split at h
   · cases h
   · rename_i h0
     split at h
     · cases h
     · simp only [Rs.ok.injEq] at h
       exact⟨h.symm,h0⟩
end Wd
theorem Ol:∀(L:List UInt8),L≠[]→(∀b∈L,48≤b.toNat∧b.toNat≤57)→∃n:Int,0≤n∧Lib.atoi L=some n:=by
 have key:∀(L:List UInt8) (a:Nat),(∀b∈L,48≤b.toNat∧b.toNat≤57)→∃n:Nat,Lib.decFrom a L=some n:=by
  intro L
  induction L with
  | nil=>intro a _;exact⟨a,rfl⟩
  | cons b r ih =>
   intro a h
   have hb:=h b (by simp)
   simp only[Lib.decFrom]
   have hv:Lib.digitVal b=some (b.toNat-48):=by
    unfold Lib.digitVal
    simp[UInt8.le_iff_toNat_le,hb]
   rw[hv]
   exact ih _ (fun x hx=>h x (by simp[hx]))
 intro L hL h
 cases L with
 | nil=>exact absurd rfl hL
 | cons b r =>
  obtain⟨n,hn⟩:=key (b::r) 0 h
  have hb:=h b (by simp)
  have h1:(b == 45)=false:=by rw[beq_eq_false_iff_ne];intro e;rw[e] at hb;revert hb;decide
  have h2:(b == 43)=false:=by rw[beq_eq_false_iff_ne];intro e;rw[e] at hb;revert hb;decide
  refine⟨n,by omega,?_⟩
  simp only[Lib.atoi,h1,h2]
  have:Lib.decNat (b::r)=some n:=hn
  simp[this]
theorem za {s:ByteArray} {W:List (Nat×Wt)} {k:Nat} {q:Uw} (h:(nD s W)[k]? = some q) :
 (∃p∈W,q=(p.2.k,s.extract (p.1+p.2.o) (p.1+p.2.o+p.2.n),if p.2.k=0 then 0 else p.1))∨q=(0,⟨#[]⟩,s.size):=by
 have hm:=List.mem_of_getElem? h
 unfold nD at hm
 rcases List.mem_append.1 hm with h1|h1
 · obtain ⟨p, hp, rfl⟩ := List.mem_map.1 h1
   exact .inl ⟨p,hp,rfl⟩
 · exact .inr (List.mem_singleton.1 h1)
theorem R8 {s:ByteArray} {W:List (Nat×Wt)} (hs:s.size≤999) (hr:rs (sb s)=.ok W) :
 (∀v∈W.map (vw (sb s)),v.1≠0)∧lS s.size (nD s W) (W.map (vw (sb s)))∧∀(k:Nat) (q:Uw),(nD s W)[k]? = some q→q.1=4→q.2.2+1+q.2.1.size≤s.size:=by
 obtain⟨hW,-⟩:=TT hr
 have hlen:=bg s
 have hmem:∀p∈W,p.1<s.size∧wd ((sb s).drop p.1)=some p.2∧p.2.k≠0:=by
  intro p hp
  obtain⟨b,x⟩:=p
  rw[hW] at hp
  obtain⟨_,h2,h3,h4⟩:=TR 0 (sb s) b x hp
  rw[Nat.sub_zero] at h2 h3
  exact⟨by omega,h3,h4⟩
 have hpos:∀v∈W.map (vw (sb s)),v.1≠0:=by
  intro v hv
  obtain⟨p,hp,rfl⟩:=List.mem_map.1 hv
  exact(hmem p hp).2.2
 refine⟨hpos,⟨xK hpos,?_,?_,?_,?_⟩,?_⟩
 · intro k q hq
   rcases za hq with⟨p,hp,rfl⟩|rfl
   · have := (hmem p hp).1
     dsimp only
     split<;>omega
   · exact Nat.le_refl _
 · intro k q hq h2 h18
   rcases za hq with⟨p,hp,rfl⟩|rfl
   · obtain ⟨h1, hw, _⟩ := hmem p hp
     obtain⟨ho,hn,hn1⟩:=TS hw h2
     have hz:=(kr hw).2.1
     have hrl:=qI dN ((sb s).drop p.1)
     rw[List.length_drop] at hrl
     dsimp only
     rw[ho,Nat.add_zero]
     have hsb:sb (s.extract p.1 (p.1+p.2.n))=((sb s).drop p.1).take p.2.n:=by
      rw[uR]
      congr 1
      omega
     refine Ol _ ?_ ?_
     · intro e
       have h9:(sb (s.extract p.1 (p.1+p.2.n))).length=p.2.n:=by rw[hsb,List.length_take,List.length_drop];omega
       rw[bg] at h9
       have h10:(s.extract p.1 (p.1+p.2.n)).size=0:=by
        show(s.extract p.1 (p.1+p.2.n)).data.size=0
        rw[←Array.length_toList,e];rfl
       omega
     · intro b hb
       have XY:(b.toNat:Int)∈sb (s.extract p.1 (p.1+p.2.n)):=by
        unfold sb
        exact List.mem_map.2 ⟨b,hb,rfl⟩
       rw[hsb] at XY
       obtain⟨i,hi⟩:=List.mem_iff_getElem?.1 XY
       have hil:i<p.2.n:=by
        rcases Nat.lt_or_ge i p.2.n with h|h
        · exact h
        · rw[List.getElem?_eq_none (by rw[List.length_take];omega)] at hi;cases hi
       rw[List.getElem?_take_of_lt hil] at hi
       have:=TU (p:=dN) (by rw[←hn];exact hil) hi
       unfold dN at this
       simp at this
       omega
   · simp at h2
 · intro k q hq
   rcases za hq with⟨p,hp,rfl⟩|rfl
   · dsimp only
     rw[ByteArray.size_extract]
     omega
   · exact Nat.zero_le _
 · rw [rZ, hW]
   have:=TV 0 (sb s)
   omega
 · intro k q hq h4
   rcases za hq with⟨p,hp,rfl⟩|rfl
   · obtain ⟨h1, hw, h0⟩ := hmem p hp
     have hz:=(kr hw).2.1
     obtain⟨ho,hz2,_⟩:=(kr hw).2.2.2.2.2.2.1 h4
     rw[List.length_drop] at hz
     dsimp only
     rw[ByteArray.size_extract,if_neg h0]
     omega
   · simp at h4
end Go.Proofs.YtfkmajjgkdjncaaGreatDoor

set_option maxHeartbeats 4000000
set_option maxRecDepth 100000
namespace Go.Proofs.YtfkmajjgkdjncaaGreatDoor
open Go.RowKit De Wd
theorem IC (s:ByteArray) (c:Int) (z:Nat) (w:World) (hs:s.size≤100000) (hr:rs (sb s)=.bad c z) (hc0:c≠0) :
 Calls Tryz.prog 10 #[.string s] w (zT c z w):=by
 have ng:∀(fn:Fn) (first cap:Array Value) (w:World),(Instr.makeFunc fn first cap).run Tryz.prog w=.ok (.func fn first cap) w:=fun _ _ _ _=>rfl
 obtain⟨W3,hW3⟩:∃W3,W3=(((w.alloc (.cells #[.slice none 0 0,.slice none 0 0] 26)).alloc (.cells #[.int .i64 0] 3)).alloc (.cells #[.int .i64 0] 3)):=⟨_,rfl⟩
 obtain⟨g0,g1,g2,g3,g4⟩:=lD w _ _ _ W3 hW3
 have hall:=nG s W3 hs
 unfold kF at hall
 rw[hr] at hall
 have HA:=Lib.hid hall
 have hcd:(c == 0)=false:=by simpa using hc0
 have hcn:(c != 0)=true:=by simpa using hc0
 have HG:=Lib.hid (And.intro hW3 (And.intro g0 (And.intro g1 (And.intro g2 (And.intro g3 g4)))))
 clear hW3 g0 g1 g2 g3 g4 hall hr hc0
 go_enter_defers Tryz.func10,Tryz.ntmps10
 go_wp2_with fail
 obtain⟨hW3,g0,g1,g2,g3,g4⟩:=HG.out
 rw[←hW3]
 refine HA.out.mono ?_
 rintro x w4 ⟨rfl,hb4⟩
 have bQ:bR w w4 (.slice none 0 0) (.slice none 0 0):=bR.below ⟨g0,g1,g2,g4⟩ (by omega) hb4
 have lF:=hb4.size
 obtain⟨d1,f1⟩:=aj bQ.h1
 obtain⟨d2,f2⟩:=aj bQ.h2
 obtain⟨W4,eT⟩:∃W4,W4=((w4.setCell ⟨w.heap.size+1,0,none⟩ (.int .i64 c)).setCell ⟨w.heap.size+1+1,0,none⟩ (.int .i64 z)):=⟨_,rfl⟩
 have k0:W4.heap[w.heap.size]? = some (.cells #[.slice none 0 0,.slice none 0 0] 26 (0,0)):=by
  rw[eT,Below.heap_setCell _ _ _ _ (by simp<;>omega),Below.heap_setCell _ _ _ _ (by simp<;>omega)];exact bQ.h0
 have k1:W4.heap[w.heap.size+1]? = some (.cells #[.int .i64 c] 3 (0,0)):=by
  rw[eT,Below.heap_setCell _ _ _ _ (by simp<;>omega)];simp[World.setCell,Array.getElem?_modify,bQ.h1]
 have hne:¬w.heap.size+1=w.heap.size+1+1:=by omega
 have k2:W4.heap[w.heap.size+1+1]? = some (.cells #[.int .i64 z] 3 (0,0)):=by
  rw[eT];simp[World.setCell,Array.getElem?_modify,bQ.h2,hne]
 have kb:Below w.heap.size w W4:=by rw[eT];exact(bQ.aV.setCell (by simp) _).setCell (by simp<;>omega) _
 have H4:=Lib.hid (And.intro k0 (And.intro k1 (And.intro k2 (And.intro kb eT))))
 have e1:=(aj k1).1
 have Dt:=(aj k1).2
 have e2:=(aj k2).1
 have e2f:=(aj k2).2
 clear bQ hb4 lF hW3 g0 g1 g2 g3 g4 HG k0 k1 k2 kb eT
 go_wp2_with (with_reducible rw[←H4.out.2.2.2.2])
 have aZ:=H4.out
 refine leaves_cons (f:=20) (args:=#[.pointer (some ⟨w.heap.size,0,none⟩),.pointer (some ⟨w.heap.size+1,0,none⟩),.pointer (some ⟨w.heap.size+1+1,0,none⟩)]) (by simp) (by simp[go_sem]) ?_
 refine(l6 _ _ _ c z _ _ _ _ W4 aZ.1 aZ.2.1 aZ.2.2.1 (by omega) (by omega) (by omega)).mono ?_
 rintro x u' w9 ⟨rfl,rfl,K0,K1,K2,hbel⟩
 have hsz:=lt_of_some aZ.2.2.1
 have HB:=aZ.2.2.2.1.trans (hbel _ (Nat.le_refl _) (by omega) (by omega) (by omega))
 obtain⟨⟨d0,d0'⟩,g0,g0'⟩:=dV K0
 obtain⟨d1,g1⟩:=aj K1
 obtain⟨d2,g2⟩:=aj K2
 simp[Leaves,settle,results,Tryz.results10,go_sem,d0,d0',d1,d2]
 exact⟨rfl,HB⟩
end Go.Proofs.YtfkmajjgkdjncaaGreatDoor

namespace Go.Proofs.YtfkmajjgkdjncaaGreatDoor
open Go.RowKit De Wd
theorem R9 {l:List Int} {c:Int} {z:Nat} (h:rs l=.bad c z):c≠0∧z≤l.length:=by
 unfold rs at h
 split at h
 · simp only [Rs.bad.injEq] at h
   obtain⟨rfl,rfl⟩:=h
   exact⟨by decide,Nat.zero_le _⟩
 · split at h
   · rename_i a ha
     simp only[Rs.bad.injEq] at h
     obtain⟨rfl,rfl⟩:=h
     have:=(Sb ha).2
     exact⟨by decide,by omega⟩
   · split at h
     · simp only [Rs.bad.injEq] at h
       obtain⟨rfl,rfl⟩:=h
       exact⟨by decide,by omega⟩
     · cases h
theorem AV (s:ByteArray) (hs:s.size≤900) (hD:∀(t:ByteArray) (p:Nat),CF p t (all 0 (sb t))) (w:World) :
 Calls Tryz.prog 10 #[.string s] w fun x w'=>(∃(c:Int) (z:Nat),(c≠0∧z≤s.size)∧zT c z w x w')∨∃(T:List TK) (R:List RU),((T.length≤1000∧R.length≤1000)∧oK T∧oL R∧(jd T R).1=0)∧Cz T R w x w':=by
 cases hr:rs (sb s) with
 | bad c z =>
  obtain⟨h1,h2⟩:=R9 hr
  rw[bg] at h2
  exact(IC s c z w (by omega) hr h1).mono fun x w' h=>.inl ⟨c,z,⟨h1,h2⟩,h⟩
 | ok W =>
  obtain⟨hp,hU,hE⟩:=R8 (by omega) hr
  refine Ko s W w (by omega) hr hp hU (fun k q hq h4 w=>?_)
  have h9:=hE k q hq h4
  refine(Oj q.2.1 (by omega) (hD q.2.1) w).mono ?_
  rintro x w' (⟨c,z,h,h1,h2,h3⟩|h)
  · exact .inl ⟨c,z,h,h1,h2,by omega⟩
  · exact .inr h
end Go.Proofs.YtfkmajjgkdjncaaGreatDoor

set_option maxHeartbeats 1000000
set_option maxRecDepth 1000000
namespace Go.Proofs.YtfkmajjgkdjncaaGreatDoor.Rn
open Go.RowKit Ru
namespace Ru
theorem oQ (p:Pc):∀l,(ins p l).length=l.length+1
 | []=>rfl
 | q::l=>by unfold ins;split<;>simp[oQ p l]
theorem oU:∀l,(rH l).length=l.length
 | []=>rfl
 | p::l=>by simp[rH,oQ,oU l]
theorem sM (l:List Pc):(aT l).length≤l.length:=by
 have h1:=qP (rH (raw l))
 rw[oU] at h1
 exact Nat.le_trans h1 (xL l)
theorem LP:∀(P:List Pc) (f:Int),(eP f P).length≤P.length+1
 | [],f=>by unfold eP;split<;>simp
 | p::P,f=>by have:=LP P p.2;unfold eP;split<;>simp<;>omega
theorem QA {P : List Pc} (h : Nf (-1) P) (h2 : Bd P) : ∀ q ∈ P, 0 ≤ q.1 ∧ q.1 < q.2 ∧ q.2 ≤ 1112064 := fun q hq => by
 have:=h.pos q hq;have:=h2 q hq;omega
theorem TY (l:List Pc):∀q∈aT l,0≤q.1∧q.1<q.2∧q.2≤1112064:=QA (qN l) (vB l)
theorem T9 (l:List Pc):∀q∈eP 0 (aT l),0≤q.1∧q.1<q.2∧q.2≤1112064:=QA (vv l).1 (vv l).2.1
def dQ (s:List Pc×Int) (p:Pc):List Pc×Int:=(if s.2<p.1 then s.1++[(s.2,p.1)] else s.1,p.2)
def zV (s:List Pc×Int):List Pc:=if s.2<1112064 then s.1++[(s.2,1112064)] else s.1
theorem sN:∀(P:List Pc) (Q:List Pc) (f:Int),zV (P.foldl dQ (Q,f))=Q++eP f P
 | [], Q, f => by
  show(if f<1112064 then Q++[(f,1112064)] else Q)=Q++(if f<1112064 then [(f,1112064)] else [])
  by_cases h:f<1112064<;>simp[h]
 | p :: P, Q, f => by
  rw[List.foldl_cons,show dQ (Q,f) p=(if f<p.1 then Q++[(f,p.1)] else Q,p.2) from rfl,sN P]
  simp only[eP]
  split<;>simp
theorem qm:∀(P:List Pc) (s:List Pc×Int),(P.foldl dQ s).1.length≤s.1.length+P.length
 | [],s=>by simp
 | p :: P, s => by
  have:=qm P (dQ s p)
  have h2:(dQ s p).1.length≤s.1.length+1:=by unfold dQ;split<;>simp
  rw[List.foldl_cons];simp only[List.length_cons];omega
theorem xM (P:List Pc) (s:List Pc×Int) (k:Nat) (h:k<P.length):(P.take (k+1)).foldl dQ s=dQ ((P.take k).foldl dQ s) (P.getD k (0,0)):=by
 rw[take_one P (0,0) k h,List.foldl_append];rfl
end Ru
open Ru
def uU (w:World) (b qf qo:Nat) (s:List Pc×Int):Prop:=
 qf<b∧qo<b∧qf≠qo∧b≤w.heap.size∧w.heap[qf]? = some (.cells #[.int .i64 s.2] 3 (0,0)) ∧
  ∃v,w.heap[qo]? = some (.cells #[v] 211 (0,0))∧w.ownsRow b 213 2 v s.1.length (flatK .i64 s.1)
theorem uU.below {w w':World} {b qf qo:Nat} {s:List Pc×Int} (h:uU w b qf qo s) (hb:Below w.heap.size w w'):uU w' b qf qo s:=by
 obtain⟨h1,h2,h3,h4,h5,v,h6,h7⟩:=h
 exact⟨h1,h2,h3,Nat.le_trans h4 hb.size,by rw[hb.block qf (by omega)];exact h5,v,by rw[hb.block qo (by omega)];exact h6,bS h7 hb⟩
theorem uU.from_ {w:World} {b qf qo:Nat} {s:List Pc×Int} (h:uU w b qf qo s) (f:Int):uU (w.setCell ⟨qf,0,none⟩ (.int .i64 f)) b qf qo (s.1,f):=by
 obtain⟨h1,h2,h3,h4,h5,v,h6,h7⟩:=h
 exact⟨h1,h2,h3,by simpa using h4,CJ h5 _,v,by rw[Below.heap_setCell _ _ _ _ (fun e=>h3 e.symm)];exact h6,ownsRow_setCell_below h7 (by simpa using h1) _⟩
theorem EW (b qf qo:Nat) (s:List Pc×Int) (tq9:Int) (w:World) (hM:uU w b qf qo s) (hl:s.1.length≤1000000) :
 Calls Tryz.prog 176 #[.int .i64 tq9,.pointer (some ⟨qf,0,none⟩),.pointer (some ⟨qo,0,none⟩)] w fun e w'=>
  e=.returned (.tuple #[])∧uU w' b qf qo (if s.2<tq9 then s.1++[(s.2,tq9)] else s.1,s.2)∧But w w' b qf qo∧∀g o,w.heap[g]? = some o→g≠qo→(∀v,w.heap[qo]? = some (.cells #[v] 211 (0,0))→v.ownBlock≠some g)→w'.heap[g]? = some o:=by
 obtain⟨i0,hi,hz0,hz1,hz2⟩:=Du
 have hM0:=hM
 obtain⟨ha,ho,hne,hb,hA,v,hO,hown⟩:=hM
 have hne':¬qo=qf:=fun e=>hne e.symm
 obtain⟨cA,fA⟩:=aj hA
 obtain⟨cO,fO⟩:=aj hO
 obtain⟨Q,f⟩:=s
 simp only at hl hA hown cA ⊢
 have QB:qf<w.heap.size:=by omega
 have hqo:qo<w.heap.size:=by omega
 by_cases h:f<tq9
 · rw [if_pos h]
   have HH:=Lib.hid (And.intro hA (And.intro hO hown))
   clear hA hO hM0
   go_enter Tryz.func176,Tryz.ntmps176
   go_wp2_with (at_builtin;refine bB _ rfl _ _ 211 rfl b 213 i0 (.agg #[.int .i64 0,.int .i64 0]) 2 16 Tryz.underlying211 hi hz0 hz1 hz2 rfl (by decide) _ _ _ rfl (hown.alloc _) _ 1 [.int .i64 f,.int .i64 tq9] rfl (iW _ _ _ _ w.heap.size rfl) rfl (by simp[Value.oneCell']) (by unfold maxLen;omega) (by omega) (by simp;omega) ?_;intro v' w1 hown1 hg1;obtain⟨o2,c2,rfl⟩:=au hown1;have gO:w1.heap[qo]? = some (.cells #[v] 211 (0,0)):=(by rw[hg1.block qo (by simp;omega) (fun e=>by have:=(hown.lt qo e.symm).1;omega),Below.heap_alloc _ _ _ hqo];exact HH.out.2.1);have cO':=(aj gO).1;have fO':=(aj gO).2;have H1:=Lib.hid (And.intro gO (And.intro hg1 hown1));clear gO hg1 hown1)
   go_end0
   obtain⟨hA,hO,hown⟩:=HH.out
   obtain⟨gO,hg1,hown1⟩:=H1.out
   have hs:=hg1.size
   simp at hs
   refine⟨rfl,⟨ha,ho,hne,by simp;omega,?_,.slice o2 (Q.length+1) c2,?_,?_⟩,?_,?_⟩
   · rw[Below.heap_setCell _ _ _ _ hne,hg1.block qf (by simp;omega) (fun e=>by have:=(hown.lt qf e.symm).1;omega),Below.heap_alloc _ _ _ QB];exact hA
   · exact CJ gO _
   · have h := ownsRow_setCell_below hown1 (a := ⟨qo, 0, none⟩) (by simpa using ho) (.slice o2 (Q.length + 1) c2)
     rw[List.length_append,fH]
     exact h
   · exact(((But.of (Below.refl b w)).alloc hb _).grown hg1 (by simp;omega) (fun j hj=>(hown.lt j hj).1)).YQ _
   · intro g o hgo hgn hv
     have hgl:=(Array.getElem?_eq_some_iff.1 hgo).1
     rw[Below.heap_setCell _ _ _ _ hgn,hg1.block g (by simp;omega) (fun e=>hv v hO e.symm),Below.heap_alloc _ _ _ hgl]
     exact hgo
 · rw [if_neg h]
   clear hown hA hO
   go_enter Tryz.func176,Tryz.ntmps176
   go_wp2
   go_end0
   exact⟨rfl,hM0,But.of (Below.refl _ _),fun g o hg _ _=>hg⟩
theorem Om {w1 w2:World} {b qa qo n:Nat} (h:But w1 w2 b qa qo) (hn:n≤b) (h1:n≤qa) (h2:n≤qo):Below n w1 w2:=⟨h.os,h.tape,h.output,h.size,fun k hk=>h.block k (by omega) (by omega) (by omega)⟩
theorem Sd (l:List (Int×Int)) (v:Value) (w:World) (hr:Row w v l.length (flatK .i32 l)) (hz:sK l) (hn:l.length≤100000) :
 Calls Tryz.prog 158 #[v] w fun e w'=>∃u,e=.returned u∧w'.ownsRow w.heap.size 79 2 u (nt l).length (flatK .i32 (nt l))∧Below w.heap.size w w':=by
 have hle:=Rn.Ru.sM l
 have hok:=Rn.Ru.TY l
 have ng:∀(fn:Fn) (first cap:Array Value) (w:World),(Instr.makeFunc fn first cap).run Tryz.prog w=.ok (.func fn first cap) w:=fun _ _ _ _=>rfl
 go_enter Tryz.func158,Tryz.ntmps158
 go_wp2_with fail
 refine(Kq l v _ (hr.below (by repeat (first|exact Below.refl _ _|assumption|(refine Below.drew ?_)|(refine below_drewN ?_ _)|(refine ah ?_ _)|(refine ak ?_ (by assumption))))) hz hn).mono ?_
 rintro e w1 ⟨u1,rfl,hown1,hb1⟩
 obtain⟨o1,c1,rfl⟩:=au hown1
 have QB:w1.heap[w.heap.size+1]? = some (.cells #[.int .i64 0] 3 (0,0)):=by
  rw[hb1.block _ (by simp)]
  have:=heap_alloc_new (w.alloc (Obj.cells #[Value.slice none 0 0] 211)) (Obj.cells #[Value.int .i64 0] 3)
  simpa using this
 have hqo:w1.heap[w.heap.size]? = some (.cells #[.slice none 0 0] 211 (0,0)):=by
  rw[hb1.block _ (by simp;omega),Below.heap_alloc _ _ _ (by simp)]
  exact heap_alloc_new w _
 have hs1:=hb1.size
 simp at hs1
 have hS:uU w1 w1.heap.size (w.heap.size+1) w.heap.size ([],0):=⟨by omega,by omega,by omega,Nat.le_refl _,QB,_,hqo,World.ownsRow_nil _ _ _ _⟩
 have hB1:Below w.heap.size w w1:=ak (by repeat (first|exact Below.refl _ _|assumption|(refine Below.drew ?_)|(refine below_drewN ?_ _)|(refine ah ?_ _)|(refine ak ?_ (by assumption)))) hb1
 obtain⟨P,hP⟩:∃P,P=aT l:=⟨_,rfl⟩
 rw[←hP] at hle hok hown1 ⊢
 have HR:=Lib.hid (And.intro (Row.owned hown1) (fun g h=>hown1.lt g h))
 have HB:=Lib.hid (And.intro hB1 hP)
 have Ua:=Lib.hid hok
 obtain⟨b,hb⟩:∃b,b=w1.heap.size:=⟨_,rfl⟩
 rw[←hb] at hS hs1
 obtain⟨n0,hn0⟩:∃n0,n0=w.heap.size:=⟨_,rfl⟩
 rw[←hn0] at hS hs1 ⊢
 have HN:=Lib.hid (And.intro hb hn0)
 have hPn:P.length≤100000:=by omega
 clear QB hqo hb1 hown1 hB1 hP hok hb hn0
 go_wp2_with fail
 go_loopw [12] (fun i wr => ∃ k : Nat, k ≤ P.length ∧ i = .int .i64 k ∧ uU wr b (n0 + 1) n0 ((P.take k).foldl Rn.Ru.dQ ([], 0)) ∧ But w1 wr b (n0 + 1) n0)
  (fun i _=>P.length-(intOf i).toNat)
 case atStart=>exact⟨0,Nat.zero_le _,rfl,hS,But.of (Below.refl _ _)⟩
 case round=>
  obtain⟨k,hk,rfl,hS,qp⟩:=hrel
  have hfl:=Rn.Ru.qm (P.take k) ([],0)
  rw[List.length_take] at hfl
  simp only[List.length_nil,Nat.zero_add] at hfl
  by_cases hk2:k<P.length
  · obtain ⟨g, off, cap', e, hlt⟩ := HR.out.1.head (by omega)
    simp only[Value.slice.injEq,true_and] at e
    obtain⟨rfl,rfl⟩:=e
    obtain⟨_,c1,c2⟩:=HR.out.1.pair hk2 rfl
    have hg:=HR.out.2 g rfl
    have hgw:wr.heap[g]? = w1.heap[g]?:=qp.block g (by rw[HN.out.1];exact hg.2) (by have:=HN.out.2;simp at hg;omega) (by have:=HN.out.2;simp at hg;omega)
    rw[←World.cell?_of_block (a:=⟨g,off+k*2,none⟩) hgw] at c1
    rw[←World.cell?_of_block (a:=⟨g,off+k*2+1,none⟩) hgw] at c2
    have hs:=Rn.Ru.xM P ([],0) k hk2
    obtain⟨q,hq⟩:∃q,q=P.getD k (0,0):=⟨_,rfl⟩
    rw[←hq] at c1 c2 hs
    obtain⟨s,hs0⟩:∃s,s=(P.take k).foldl Rn.Ru.dQ ([],0):=⟨_,rfl⟩
    rw[←hs0] at hs hS hfl
    obtain⟨lo,hi'⟩:=q
    simp only at c1 c2
    have Hs:=Lib.hid (And.intro hs (And.intro hs0 hq))
    have hbs:b≤wr.heap.size:=hS.2.2.2.1
    have hS2:=hS.below (ah (Below.refl _ _) (.cells #[.int .i64 lo,.int .i64 hi'] 213))
    have QC:=qp.alloc hbs (.cells #[.int .i64 lo,.int .i64 hi'] 213)
    have HS:=Lib.hid (And.intro hS2 QC)
    clear hs hs0 hq hgw hg qp hS2 QC
    go_wp2_with fail
    refine(EW b (n0+1) n0 s lo _ HS.out.1 (by omega)).mono ?_
    rintro e w2 ⟨rfl,vF,AX,hfr⟩
    have hn:n0+1<w2.heap.size:=by have:=vF.1;have:=vF.2.2.2.1;omega
    have c5 := hfr wr.heap.size _ (heap_alloc_new wr (.cells #[.int .i64 lo, .int .i64 hi'] 213)) (by have := hS.2.1; omega) (by
     intro v hv e
     obtain⟨_,hob,_,_,_,v',hv',hown'⟩:=hS
     rw[Below.heap_alloc _ _ _ (by omega),hv'] at hv
     simp only[Option.some.injEq,Obj.cells.injEq,Array.mk.injEq,List.cons.injEq,and_true] at hv
     subst hv
     have:=(hown'.lt _ e).2;omega)
    have c6:w2.cell? ⟨wr.heap.size,1,none⟩=some (.int .i64 hi'):=by simp[World.cell?,c5]
    obtain⟨cF,fF⟩:=aj vF.2.2.2.2.1
    have XZ:=vF.from_ hi'
    have QD:=(HS.out.2.trans AX).xO (i:=0) (.int .i64 hi')
    have H4:=Lib.hid (And.intro XZ QD)
    clear hS vF AX hfr c5 XZ QD
    go_wp2
    go_roundw
    case rel=>exact⟨k+1,by omega,by go_num,by rw[Hs.out.1];exact H4.out.1,H4.out.2⟩
    case measure=>simp[intOf]<;>omega
  · have hkn : k = P.length := by omega
    subst hkn
    rw[List.take_length] at hS hfl
    obtain⟨s,hs0⟩:∃s,s=P.foldl Rn.Ru.dQ ([],0):=⟨_,rfl⟩
    rw[←hs0] at hS hfl
    have hend:Rn.Ru.zV s=eP 0 P:=by rw[hs0,Rn.Ru.sN];rfl
    have Hs:=Lib.hid (And.intro hend hs0)
    have HU:=Lib.hid qp
    clear hend hs0 qp
    go_wp2_with fail
    refine(EW b (n0+1) n0 s 1112064 _ hS (by omega)).mono ?_
    rintro e w2 ⟨rfl,vF,AX,_⟩
    rw[show(if s.2<1112064 then s.1++[(s.2,1112064)] else s.1)=Rn.Ru.zV s from rfl,Hs.out.1] at vF
    obtain⟨_,_,_,hb2,_,v,hO,hown⟩:=vF
    obtain⟨cO,fO⟩:=aj hO
    have hcl:=Rn.Ru.LP P 0
    have hlow:Below w.heap.size w w2:=by
     have h1:=Om (HU.out.trans AX) (n:=w.heap.size) (by rw[HN.out.1];exact HB.out.1.size) (by rw[HN.out.2];omega) (by rw[HN.out.2];omega)
     exact HB.out.1.trans h1
    obtain⟨Q,hQ⟩:∃Q,Q=eP 0 P:=⟨_,rfl⟩
    have Ub:∀q∈Q,0≤q.1∧q.1<q.2∧q.2≤1112064:=by rw[hQ,HB.out.2];exact Rn.Ru.T9 l
    rw[←hQ] at hown hcl
    have HQ:=Lib.hid hQ
    have HW:=Lib.hid (And.intro hlow Ub)
    have hR:=Row.owned hown
    clear hQ hlow Ub AX hown hS
    go_wp2_with fail
    refine(Kr Q v _ hR (by omega) HW.out.2).mono ?_
    rintro e w3 ⟨u3,rfl,hown3,hb3⟩
    go_wp2
    go_ret
    refine⟨_,rfl,?_,ak HW.out.1 hb3⟩
    have e:nt l=aY Q:=by unfold nt;rw[HQ.out,HB.out.2]
    rw[e]
    exact ji hown3 HW.out.1.size
end Go.Proofs.YtfkmajjgkdjncaaGreatDoor.Rn

set_option maxHeartbeats 4000000
set_option maxRecDepth 100000
namespace Go.Proofs.YtfkmajjgkdjncaaGreatDoor
open Go.RowKit De Wd Ru
def EY:Prop:=∀(v:Value) (w:World),Row w v 1 (flatK .i32 [(10,10)])→Calls Tryz.prog 158 #[v] w fun e w'=>∃u,e=.returned u∧w'.ownsRow w.heap.size 79 2 u (nt [(10,10)]).length (flatK .i32 (nt [(10,10)]))∧Below w.heap.size w w'
theorem Kt (YR:Hid EY) (p k d:Nat) (s:ByteArray) (L:Its) (v:Value) (w:World) (h:XI w p s L k d v) (hrn:pk L k=46) :
 Calls Tryz.prog 139 #[.pointer (some ⟨p,0,none⟩)] w fun x w'=>jv w w' (.mk 2 (nt [(10,10)]) []) x∧Ch w w' p∧XI w' p s L (k+1) d v:=by
 have dw:=h.lt
 have hA:=h.moved (ah (Below.refl _ _) (.cells #[.int .i64 0,.slice none 0 0,.slice none 0 0] 35))
 obtain⟨W0,hW0⟩:∃W0,W0=w.alloc (.cells #[.int .i64 0,.slice none 0 0,.slice none 0 0] 35):=⟨_,rfl⟩
 have hr0:W0.heap[w.heap.size]? = some (.cells #[.int .i64 0,.slice none 0 0,.slice none 0 0] 35 (0,0)):=by rw[hW0];exact heap_alloc_new w _
 have kg:W0.heap.size=w.heap.size+1:=by rw[hW0];simp
 have hcW:Ch w W0 p:=by rw[hW0];exact Ch.of (ah (Below.refl _ _) _)
 rw[←hW0] at hA
 obtain⟨⟨c0,c1,c2,c3⟩,f0,f1,f2,f3⟩:=aJ hA.hh
 have hkl:=fI hrn (by decide)
 have hx1:XI (W0.setCell ⟨p,2,none⟩ (.int .i64 ((k:Int)+1))) p s L (k+1) d v:=by
  have h9:=hA.at (k':=k+1) (by omega)
  rwa [show((k+1:Nat):Int)=(k:Int)+1 by omega] at h9
 obtain⟨W1,hW1⟩:∃W1,W1=W0.setCell ⟨p,2,none⟩ (.int .i64 ((k:Int)+1)):=⟨_,rfl⟩
 rw[←hW1] at hx1
 have hc1:Ch W0 W1 p:=by rw[hW1];exact Ch.set _ _ _ _
 have hs1:W1.heap.size=w.heap.size+1:=by rw[hW1,←kg];simp[World.setCell]
 have HX:=Lib.hid h
 have HA:=Lib.hid (And.intro hA (And.intro hr0 hcW))
 have H1:=Lib.hid (And.intro hx1 hc1)
 have HW0:=Lib.hid hW0
 have HW1:=Lib.hid hW1
 have hk0:(0:Int)≤(k:Int):=by omega
 have hsm:=h.small
 have t40:(pk L k == 40)=false:=by rw[hrn];rfl
 have t91:(pk L k == 91)=false:=by rw[hrn];rfl
 have LQ:(pk L k == 92)=false:=by rw[hrn];rfl
 have t46:(pk L k == 46)=true:=by rw[hrn];rfl
 obtain⟨S,hS⟩:∃S,S=nt [(10,10)]:=⟨_,rfl⟩
 have ED:=YR.out
 unfold EY at ED
 rw[←hS] at ED ⊢
 have ZN:=Lib.hid ED
 clear ED hS
 clear h hA hW0 hW1 hr0 hcW hx1 hc1 hrn
 go_enter Tryz.func139,Tryz.ntmps139
 go_wp2_with (with_reducible rw[←HW0.out])
 refine(dx p k k d s L _ _ HA.out.1).mono ?_
 rintro x w1 ⟨rfl,hw⟩
 have hw:=hw.symm
 subst hw
 go_wp2_with fail
 refine(bf p k k d s L _ _ HA.out.1).mono ?_
 rintro x w1 ⟨rfl,hw⟩
 have hw:=hw.symm
 subst hw
 go_wp2_with fail
 rw[←HW1.out]
 have hbel:=ah (Below.refl W1.heap.size W1) (.cells #[.int .i32 10,.int .i32 10] 79)
 obtain⟨W2,hW2⟩:∃W2,W2=W1.alloc (.cells #[.int .i32 10,.int .i32 10] 79):=⟨_,rfl⟩
 have hq2:W2.heap[W1.heap.size]? = some (.cells #[.int .i32 10,.int .i32 10] 79 (0,0)):=by rw[hW2];exact heap_alloc_new W1 _
 have hrow:Row W2 (.slice (some ⟨W1.heap.size,0,none⟩) 1 1) 1 (flatK .i32 [(10,10)]):=by
  refine⟨_,1,rfl,Nat.le_refl _,by show(1:Nat)≤maxLen;decide,.inr ⟨W1.heap.size,0,rfl,lt_of_some hq2,fun j u hu=>?_⟩⟩
  unfold World.cell?
  rw[show(⟨W1.heap.size,0+j,none⟩:Addr).block=W1.heap.size from rfl,hq2]
  match j,hu with
  | 0,h=>simpa [flatK] using h
  | 1,h=>simpa [flatK] using h
  | j+2,h=>simp[flatK] at h
 rw[←hW2] at hbel
 have HR:=Lib.hid (And.intro hrow (And.intro hbel hW2))
 have hs2:W2.heap.size=w.heap.size+1+1:=by rw[hW2,←hs1];simp
 clear hrow hbel hq2 hW2
 rw[←hs1]
 go_wp2_with (with_reducible rw[←HR.out.2.2])
 refine(ZN.out _ _ HR.out.1).mono ?_
 rintro x w2 ⟨u,rfl,hown,hb2⟩
 obtain⟨ou,cu,rfl⟩:=au hown
 have HO:=Lib.hid (And.intro hown hb2)
 clear hown hb2
 go_wp2_with fail
 refine(kP ou S.length cu _).mono ?_
 rintro x w3 ⟨rfl,hb3⟩
 have hs3:=HO.out.2.size
 have hbb:Below W1.heap.size W1 w3:=ak (ak HR.out.2.1 HO.out.2) hb3
 have hch:Ch W1 w3 p:=Ch.of hbb
 have hx2:=H1.out.1.moved hbb
 have hkp : KP (fun j => W2.heap.size ≤ j) w3 (fun w4 => bI w4 (.mk 2 S []) (.slice ou S.length cu) (.slice none 0 0)) := by
  intro w4 hag
  exact oz (Row.owned (dU (S:=fun j=>W2.heap.size≤j) HO.out.1 ((Ag.of hb3).trans hag) (fun j hj=>(HO.out.1.lt j hj).1)))
 have hr2:=(H1.out.2.trans hch).block _ (show w.heap.size<W0.heap.size by omega) (by omega) |>.trans HA.out.2.1
 obtain⟨⟨d0,d1,d2⟩,g0,g1,g2⟩:=ay hr2
 have HF:=Lib.hid (qw HX.out hr2 rfl ((HA.out.2.2.trans H1.out.2).trans hch) hx2 hkp (fun j hj=>by omega))
 clear hkp hch hx2 hr2 c0 c1 c2 c3 f0 f1 f2 f3 hbb hb3 hs1 hs2 hs3 kg
 go_wp2_with fail
 obtain⟨W9,hW,⟨⟨e0,e1,e2⟩,m0,m1,m2⟩,hre,bZ,eu⟩:=HF.out
 have HW:=Lib.hid hW
 clear hW HF
 rw[show(.int .i64 2:Value)=.int .i64 (RE.mk 2 S []).kind from rfl,←HW.out]
 refine bodyPost_ret (v:=.agg #[.int .i64 2,.slice ou S.length cu,.slice none 0 0]) (by simp[results,Tryz.results139,go_sem,e0,e1,e2,m0,m1,m2,RE.kind]) rfl ⟨hre,bZ,eu⟩
theorem Oo (H:EY) (p:Nat) (s:ByteArray) (L:Its):CF p s L:=fun k d v w hx h=>Kt (Lib.hid H) p k d s L v w hx h
end Go.Proofs.YtfkmajjgkdjncaaGreatDoor

set_option maxHeartbeats 8000000
set_option maxRecDepth 100000
namespace Go.Proofs.YtfkmajjgkdjncaaGreatDoor
open Go.RowKit De Wd
theorem IE (HN:EY) (s:ByteArray) (b:Bool) (w:World) :
 Calls Tryz.prog 3 #[.string s,.bool b] w fun x w'=>x=.returned (.bool true)∧Below w.heap.size w w':=by
 have HD:∀(t:ByteArray) (p:Nat),CF p t (all 0 (sb t)):=fun t p=>Oo HN p t _
 by_cases hz:s.size≤300
 · have e1 : decide ((s.size : Int) > 300) = false := by simp; omega
   have e2:decide ((300:Int)<(s.size:Int))=false:=by simp;omega
   have e3:decide (300<s.size)=false:=by simp;omega
   have hsl:(s.size:Int)≤9223372036854775807:=by omega
   cases b with
   | true =>
    obtain⟨S,hS⟩:∃S,S=(⟨#[116,111,107,32,97,32,105,110,116,32,49,32,61,32,47,97,47,10]⟩:ByteArray)++s:=⟨_,rfl⟩
    have hSz:S.size=18+s.size:=by rw[hS,ByteArray.size_append];rfl
    have hz1:¬9223372036854775807<18+s.size:=by omega
    have Oq:=Lib.hid (fun w=>AV S (by omega) HD w)
    have HS:=Lib.hid hS
    clear hS HD
    go_enter Tryz.func3,Tryz.ntmps3
    go_wp2_with (with_reducible rw[←HS.out])
    refine(Oq.out _).mono ?_
    rintro x w1 (⟨c,z,⟨hc0,xP⟩,rfl,hb1⟩|⟨T,R,⟨⟨iH,hRl⟩,fJ,fK,xQ⟩,tv,rv,rfl,hT,hR,hb1⟩)
    · have e5 : (c == 0) = false := by simpa using hc0
      have e6:(c != 0)=true:=by simpa using hc0
      have z1:decide ((0:Int)≤(z:Int))=true:=by simp
      have z2:decide ((z:Int)≥0)=true:=by simp
      have z3:decide ((z:Int)≤(S.size:Int))=true:=by simp;omega
      have z4:decide (z≤S.size)=true:=by simp;omega
      have z5:decide ((z:Int)≤18+(s.size:Int))=true:=by simp;omega
      have z6:decide (z≤18+s.size)=true:=by simp;omega
      have hbn:=ah (Below.refl w1.heap.size w1) (.cells #[.slice none 0 0,.slice none 0 0] 26)
      have H1:=Lib.hid (And.intro (ak hb1 hbn) (heap_alloc_new w1 (.cells #[.slice none 0 0,.slice none 0 0] 26)))
      clear hb1 hbn hc0 xP
      go_wp2_with fail
      refine(oP _).mono ?_
      rintro x w2 ⟨rfl,hb2⟩
      have hg:=aB hb2 H1.out.2
      have HB:=Lib.hid (ak H1.out.1 hb2)
      obtain⟨⟨d0,d1⟩,g0,g1⟩:=dV hg
      clear hb2 hg
      go_wp2_with fail
      go_ret
      exact⟨rfl,HB.out⟩
    · obtain ⟨o3, c3, XM, XO, XP, XQ, XR, XT, XU, lo3, XV, XW, rfl, -⟩ := hT.all
      obtain⟨o4,c4,rfl⟩:=hR.form
      have hbn:=ah (Below.refl w1.heap.size w1) (.cells #[.slice o3 T.length c3,.slice o4 R.length c4] 26)
      have H1:=Lib.hid (And.intro (ak hb1 hbn) (And.intro (heap_alloc_new w1 (.cells #[.slice o3 T.length c3,.slice o4 R.length c4] 26)) (And.intro (hT.moved hbn) (hR.moved hbn))))
      have HF:=Lib.hid (And.intro fJ (And.intro fK xQ))
      clear hb1 hbn hT hR fJ fK xQ
      go_wp2_with fail
      refine(oP _).mono ?_
      rintro x w2 ⟨rfl,hb2⟩
      have hg:=aB hb2 H1.out.2.1
      have H2:=Lib.hid (And.intro (ak H1.out.1 hb2) (And.intro (H1.out.2.2.1.moved hb2) (H1.out.2.2.2.moved hb2)))
      obtain⟨⟨d0,d1⟩,g0,g1⟩:=dV hg
      clear hb2 hg
      go_wp2_with fail
      refine(zu T R _ _ _ H2.out.2.1 H2.out.2.2 iH hRl HF.out.1 HF.out.2.1).mono ?_
      rintro x w3 ⟨rfl,hb3⟩
      rw[decide_eq_true HF.out.2.2]
      have HB:=Lib.hid (ak H2.out.1 hb3)
      clear hb3
      go_wp2_with fail
      go_ret
      exact⟨rfl,HB.out⟩
   | false =>
    have Oq:=Lib.hid (fun w=>AV s (by omega) HD w)
    clear HD
    go_enter Tryz.func3,Tryz.ntmps3
    go_wp2_with fail
    refine(Oq.out _).mono ?_
    rintro x w1 (⟨c,z,⟨hc0,xP⟩,rfl,hb1⟩|⟨T,R,⟨⟨iH,hRl⟩,fJ,fK,xQ⟩,tv,rv,rfl,hT,hR,hb1⟩)
    · have e5 : (c == 0) = false := by simpa using hc0
      have e6:(c != 0)=true:=by simpa using hc0
      have z1:decide ((0:Int)≤(z:Int))=true:=by simp
      have z2:decide ((z:Int)≥0)=true:=by simp
      have z3:decide ((z:Int)≤(s.size:Int))=true:=by simp;omega
      have z4:decide (z≤s.size)=true:=by simp;omega
      have hbn:=ah (Below.refl w1.heap.size w1) (.cells #[.slice none 0 0,.slice none 0 0] 26)
      have H1:=Lib.hid (And.intro (ak hb1 hbn) (heap_alloc_new w1 (.cells #[.slice none 0 0,.slice none 0 0] 26)))
      clear hb1 hbn hc0 xP
      go_wp2_with fail
      refine(oP _).mono ?_
      rintro x w2 ⟨rfl,hb2⟩
      have hg:=aB hb2 H1.out.2
      have HB:=Lib.hid (ak H1.out.1 hb2)
      obtain⟨⟨d0,d1⟩,g0,g1⟩:=dV hg
      clear hb2 hg
      go_wp2_with fail
      go_ret
      exact⟨rfl,HB.out⟩
    · obtain ⟨o3, c3, XM, XO, XP, XQ, XR, XT, XU, lo3, XV, XW, rfl, -⟩ := hT.all
      obtain⟨o4,c4,rfl⟩:=hR.form
      have hbn:=ah (Below.refl w1.heap.size w1) (.cells #[.slice o3 T.length c3,.slice o4 R.length c4] 26)
      have H1:=Lib.hid (And.intro (ak hb1 hbn) (And.intro (heap_alloc_new w1 (.cells #[.slice o3 T.length c3,.slice o4 R.length c4] 26)) (And.intro (hT.moved hbn) (hR.moved hbn))))
      have HF:=Lib.hid (And.intro fJ (And.intro fK xQ))
      clear hb1 hbn hT hR fJ fK xQ
      go_wp2_with fail
      refine(oP _).mono ?_
      rintro x w2 ⟨rfl,hb2⟩
      have hg:=aB hb2 H1.out.2.1
      have H2:=Lib.hid (And.intro (ak H1.out.1 hb2) (And.intro (H1.out.2.2.1.moved hb2) (H1.out.2.2.2.moved hb2)))
      obtain⟨⟨d0,d1⟩,g0,g1⟩:=dV hg
      clear hb2 hg
      go_wp2_with fail
      refine(zu T R _ _ _ H2.out.2.1 H2.out.2.2 iH hRl HF.out.1 HF.out.2.1).mono ?_
      rintro x w3 ⟨rfl,hb3⟩
      rw[decide_eq_true HF.out.2.2]
      have HB:=Lib.hid (ak H2.out.1 hb3)
      clear hb3
      go_wp2_with fail
      go_ret
      exact⟨rfl,HB.out⟩
 · have e1 : decide ((s.size : Int) > 300) = true := by simp; omega
   have e2:decide ((300:Int)<(s.size:Int))=true:=by simp;omega
   have e3:decide (300<s.size)=true:=by simp;omega
   clear HD
   go_enter Tryz.func3,Tryz.ntmps3
   go_wp2_with fail
   refine(oP _).mono ?_
   rintro x w2 ⟨rfl,hb2⟩
   have HB:=Lib.hid hb2
   clear hb2
   go_wp2_with fail
   go_ret
   exact⟨rfl,HB.out⟩
end Go.Proofs.YtfkmajjgkdjncaaGreatDoor

namespace Go.Proofs.YtfkmajjgkdjncaaGreatDoor
open Go.RowKit Ru
theorem Ot:EY:=fun v w hr=>Rn.Sd [(10,10)] v w hr (fun p hp=>by rw[List.mem_singleton.1 hp];decide) (by decide)
theorem Es (s:ByteArray) (b:Bool) (w:World) :
 Calls Tryz.prog 3 #[.string s,.bool b] w fun x w'=>x=.returned (.bool true)∧Below w.heap.size w w':=IE Ot s b w
end Go.Proofs.YtfkmajjgkdjncaaGreatDoor
