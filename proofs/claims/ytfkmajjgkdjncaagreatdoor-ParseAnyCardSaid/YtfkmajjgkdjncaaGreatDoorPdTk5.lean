/- Merged. -/
import Derived.OrdersHeld
import Derived.Test.YtfkmajjgkdjncaaGreatDoorPsTok
import Derived.Test.YtfkmajjgkdjncaaGreatDoorPsRule
import Derived.Test.YtfkmajjgkdjncaaGreatDoorPaFail
set_option linter.unusedVariables false
set_option linter.unusedSimpArgs false
namespace Go.Proofs.YtfkmajjgkdjncaaGreatDoor
open Go.RowKit Ru
namespace PT
mutual
def deep:PT→Nat
 | .mk _ _ _ l=>RV l+1
def RV:List PT→Nat
 | []=>0
 | e::l=>max (deep e) (RV l)
end
end PT
open PT
structure GP (T:List TK) (p:PT):Prop where
 ok:pO T p=none
 fit:p.Fit
structure Nm (T:List TK) (kind:Int) (ns:List ByteArray):Prop where
 ok:fC T kind [] ns=none
 pos:0<ns.length
 few:ns.length≤2
theorem AR {a b:Option Int} (ha:a=none) (hb:b=none):rM a b=none:=by rw[ha,hb];rfl
def Cx (l:List ByteArray) (k:Int):List ByteArray:=if bits BinOp.and IntKind.i64 k 1=1∧l.length=2 then l else [l.getD ((IntKind.u64.wrap k).tmod (l.length:Int)).toNat ⟨#[]⟩]
def EN (s:List PT):PT:=s.getLast?.getD (.mk 4 [] [] [])
def RX (I C R:List ByteArray) (k:Int) (s:List PT):List PT:=
 if ((IntKind.u64.wrap k).tmod 11).toNat<3∨s.length=0∧5<((IntKind.u64.wrap k).tmod 11).toNat then s++[.mk 2 (Cx I (wrap64 (k.tdiv 11))) [] []]
 else if ((IntKind.u64.wrap k).tmod 11).toNat=3 then s++[.mk 4 [] [] []]
 else if ((IntKind.u64.wrap k).tmod 11).toNat=4 then s++[.mk 1 [] [] []]
 else if ((IntKind.u64.wrap k).tmod 11).toNat=5 then s++[.mk 3 (Cx C (wrap64 (k.tdiv 11))) (Cx R (wrap64 (k.tdiv 13))) [.mk (if bits BinOp.and IntKind.i64 (wrap64 (k.tdiv 17)) 1=1 then 4 else 1) [] [] []]]
 else if ((IntKind.u64.wrap k).tmod 11).toNat=6∨s.length<2∧7<((IntKind.u64.wrap k).tmod 11).toNat then s.dropLast++[.mk 7 [] [] [EN s]]
 else if ((IntKind.u64.wrap k).tmod 11).toNat=7 then s.dropLast++[.mk 3 (Cx C (wrap64 (k.tdiv 11))) (Cx R (wrap64 (k.tdiv 13))) [EN s]]
 else s.dropLast.dropLast++[.mk (if ((IntKind.u64.wrap k).tmod 11).toNat<10 then 5 else 6) [] [] [EN s.dropLast,EN s]]
structure Gh where
 l:List Int
 I:List ByteArray
 C:List ByteArray
 R:List ByteArray
def Qt (G:Gh):Nat→List PT
 | 0=>[]
 | j+1=>if j<G.l.length then RX G.I G.C G.R (G.l.getD j 0) (Qt G j) else Qt G j
structure YI (T:List TK) (G:Gh) (j:Nat) (s:List PT):Prop where
 tr:s=Qt G j
 len:s.length≤j
 good:∀p∈s,GP T p
 deep:∀p∈s,p.deep+s.length≤j+2
 size:sizes s+s.length≤3*j
theorem YI.nil (T:List TK) (G:Gh):YI T G 0 []:=⟨rfl,by simp,fun p h=>by simp at h,fun p h=>by simp at h,by simp[kT]⟩
structure XJ (T:List TK) (p:PT):Prop where
 ok:pO T p=none
 fits:p.EH=true
 fit:p.Fit
end Go.Proofs.YtfkmajjgkdjncaaGreatDoor
namespace Go.Proofs.YtfkmajjgkdjncaaGreatDoor
open Go.RowKit Ru
def Sub (ns l:List ByteArray):Prop:=ns=l∨∃x∈l,ns=[x]
end Go.Proofs.YtfkmajjgkdjncaaGreatDoor
namespace Go.Proofs.YtfkmajjgkdjncaaGreatDoor
open Go Go.RowKit
section
variable {P:Program} {ops:Array Oper} {Q:Exit→Act→World→Prop} {md:Region.Mode} {S:World→Prop}
end
end Go.Proofs.YtfkmajjgkdjncaaGreatDoor

namespace Go.Proofs.YtfkmajjgkdjncaaGreatDoor
open Go.RowKit Ru PT
def tkP:TK:=⟨⟨#[112]⟩,1,5,.mk 3 [] [.mk 2 [(99,99)] [],.mk 2 [(99,99)] []]⟩
def tkQ:TK:=⟨⟨#[113]⟩,2,6,.mk 3 [] [.mk 2 [(100,100)] [],.mk 2 [(97,97)] []]⟩
def T6:List TK:=T0++[tkP,tkQ]
def Lv (T:List TK):Prop:=T=T0∨T=T6
def Kh:ByteArray:=⟨#[111]⟩
def YJ:ByteArray:=⟨#[99]⟩
def Xd:ByteArray:=⟨#[112]⟩
def nmQ:ByteArray:=⟨#[113]⟩
theorem NS {T:List TK} (h:Lv T):∀ns,(ns=[Kh]∨∃x∈[Kh],ns=[x])→Nm T 1 ns:=by
 rintro ns (rfl|⟨x,hx,rfl⟩)
 · rcases h with rfl|rfl<;>exact⟨by kernel_rfl,by decide,by decide⟩
 · simp only [List.mem_cons, List.not_mem_nil, or_false] at hx
   rcases hx with rfl;rcases h with rfl|rfl<;>exact⟨by kernel_rfl,by decide,by decide⟩
theorem NT:∀ns,(ns=[Kh,Xd]∨∃x∈[Kh,Xd],ns=[x])→Nm T6 1 ns:=by
 rintro ns (rfl|⟨x,hx,rfl⟩)
 · exact⟨by kernel_rfl,by decide,by decide⟩
 · simp only [List.mem_cons, List.not_mem_nil, or_false] at hx
   rcases hx with rfl|rfl<;>exact⟨by kernel_rfl,by decide,by decide⟩
theorem Lv.len {T:List TK} (h:Lv T):4≤T.length∧T.length≤6:=by rcases h with rfl|rfl<;>decide
structure EO (T:List TK) (first:Bool) (s:ST):Prop where
 calls:s.calls=[]∧first=true∨Nm T 1 s.calls∧first=false
 p:XJ T s.p
theorem EO.ok {T:List TK} {first:Bool} {s:ST} (h:EO T first s):rV T first s=none:=by
 unfold rV
 rcases h.calls with⟨h1,h2⟩|⟨h1,h2⟩
 · rw [h1, h2, if_neg (by simp)]
   exact AR rfl (by rw[if_neg (by rw[h.p.fits];simp)];exact h.p.ok)
 · rw [h2, if_neg (by have := h1.pos; simp; intro e; rw [e] at this; simp at this)]
   exact AR h1.ok (by rw[if_neg (by rw[h.p.fits];simp)];exact h.p.ok)
structure Lx (T:List TK) (r:RU):Prop where
 cls:0≤r.cls∧r.cls≤31
 len:1≤r.steps.length∧r.steps.length≤2
 st:∀(i:Nat) (s:ST),r.steps[i]? = some s→EO T (decide (i=0) && !r.free) s
theorem Qu {T:List TK} {free:Bool}:∀(l:List ST) (k:Nat),(∀(i:Nat) (s:ST),l[i]? = some s→EO T (decide (k+i=0) && !free) s)→nK T free k l=none:=by
 intro l
 induction l with
 | nil=>intro k _;exact BH T free k
 | cons s l ih =>
  intro k h
  rw[zI]
  exact AR (by have:=(h 0 s rfl).ok;simpa using this) (ih (k+1) (fun i t ht=>by have:=h (i+1) t (by simpa using ht);simpa [Nat.add_assoc,Nat.add_comm 1 i] using this))
theorem Lx.ok {T:List TK} {r:RU} (h:Lx T r):uL T r=none:=by
 unfold uL
 have h1:=h.len
 rw[if_neg (by intro hn;exact hn ⟨h.cls,h1.1,by omega⟩)]
 exact Qu r.steps 0 (fun i s hs=>by simpa using h.st i s hs)
end Go.Proofs.YtfkmajjgkdjncaaGreatDoor

namespace Go.Proofs.YtfkmajjgkdjncaaGreatDoor
open Go.RowKit Ru PT
abbrev four (p:PT×Value×Value×Value):List Value:=[.int .i64 p.1.kind,p.2.1,p.2.2.1,p.2.2.2]
section
variable {T:List TK} {G:Gh} {w wx:World} {j n c v:Nat} {k:Int} {o:Option Addr} {ps:List (PT×Value×Value×Value)}
end
theorem Xe (xs:List Value) (k:Nat) (hk:xs.length=k) (a0 a1 a2 a3 b0 b1 b2 b3:Value):((((xs++[a0,a1,a2,a3]).set k b0).set (k+1) b1).set (k+2) b2).set (k+3) b3=xs++[b0,b1,b2,b3]:=by
 subst hk
 simp[List.set_append]
end Go.Proofs.YtfkmajjgkdjncaaGreatDoor
namespace Go.Proofs.YtfkmajjgkdjncaaGreatDoor
open Go.RowKit Ru PT
end Go.Proofs.YtfkmajjgkdjncaaGreatDoor
namespace Go.Proofs.YtfkmajjgkdjncaaGreatDoor
open Go.RowKit Ru PT
end Go.Proofs.YtfkmajjgkdjncaaGreatDoor

namespace Go.Proofs.YtfkmajjgkdjncaaGreatDoor
open Go.RowKit Ru
structure BX (w w2:World) (n rn gx c9:Nat) (aD:List (TK×Value×Value)) (T:List TK) (R:List RU) (tv rv:Value) (wx:World):Prop where
 own:J8 (fun k=>k≠w2.heap.size) wx w2.heap.size (.slice (some ⟨gx,0,none⟩) n c9) aD
 len:aD.length=n
 toks:aD.map (·.1)=T
 hg:wx.heap[w2.heap.size]? = some (.cells #[tv,rv] 26 (0,0))
 rus:KP (fun k=>k≠w2.heap.size∧k≠gx) wx (fun w'=>jE w' rv R)
 aV:Below w.heap.size w wx
 ne:gx≠w2.heap.size
 ge:w.heap.size≤w2.heap.size
 gel:w2.heap.size≤gx
 mt:Lv T
 rg:∀r∈R,Lx T r
 rl:R.length≤3
theorem BX.cells {w w2:World} {n rn gx c9:Nat} {aD:List (TK×Value×Value)} {T:List TK} {R:List RU} {tv rv:Value} {wx:World} (h:BX w w2 n rn gx c9 aD T R tv rv wx) {i:Nat} {p:TK×Value×Value} (hp:aD[i]? = some p) :
 ∀j,j<6→∀u,(six p)[j]? = some u→wx.cell? ⟨gx,i*6+j,none⟩=some u:=by
 intro j hj u hu
 have hr:=h.own.row
 have hf:=yA six 6 (fun _=>rfl) aD i j p hp hj
 have:=hr.cells (g:=gx) rfl (i*6+j) u (by rw[hf];exact hu)
 have hadd:∀k:Nat,((⟨gx,0,none⟩:Addr).add k)=⟨gx,k,none⟩:=fun k=>by unfold Addr.add;by_cases e:k=0<;>simp[e]
 rw[hadd] at this
 exact this
namespace Xf
theorem one {s : ST} (h1 : s.calls.length ≤ 1000) (h2 : s.p.Fit) : Di [s] := fun i t h => by
 match i,h with
 | 0,h=>cases h;exact⟨h1,h2⟩
 | (n+1),h=>simp at h
theorem tok (nm:ByteArray):(PT.mk 2 [nm] [] []).Fit:=.mk 2 [nm] [] [] (by simp) (by decide) (by decide) (fun i p h=>by simp at h)
end Xf
structure BG (w:World) (pg:Nat) (xv rv:Value) (T:List TK) (R:List RU) (wx:World):Prop where
 hg:wx.heap[pg]? = some (.cells #[xv,rv] 26 (0,0))
 tks:iO wx xv T
 rus:jE wx rv R
 aV:Below w.heap.size w wx
theorem BG.cells {w:World} {pg:Nat} {xv rv:Value} {T:List TK} {R:List RU} {wx:World} (h:BG w pg xv rv T R wx):wx.cell? ⟨pg,0,none⟩=some xv∧wx.cell? ⟨pg,1,none⟩=some rv:=by
 have:=h.hg
 exact⟨by simp[World.cell?,this],by simp[World.cell?,this]⟩
end Go.Proofs.YtfkmajjgkdjncaaGreatDoor

namespace Go.Proofs.YtfkmajjgkdjncaaGreatDoor
open Go.RowKit Ru
def MN (T:List TK) (C R:List ByteArray):Prop:=(T=T0∧C=[Kh]∧R=[YJ])∨(T=T6∧C=[Kh,Xd]∧R=[YJ,nmQ])
theorem MN.calls {T:List TK} {C R:List ByteArray} (h:MN T C R):∀ns,Sub ns C→Nm T 1 ns:=by
 rcases h with⟨rfl,rfl,-⟩|⟨rfl,rfl,-⟩
 · exact NS (.inl rfl)
 · exact NT
theorem qj:∃i,Tryz.prog.info? 3=some i∧i.zero=some (.int .i64 0)∧i.size=1∧i.bytes=8:=info_parts (by kernel_rfl)
end Go.Proofs.YtfkmajjgkdjncaaGreatDoor

set_option maxHeartbeats 4000000
set_option maxRecDepth 100000
namespace Go.Proofs.YtfkmajjgkdjncaaGreatDoor
open Go.RowKit De Wd
theorem Qv (p k k0 d0:Nat) (U:List Uw) (V:Pm.Ws) (hV:iq V U) (wv tv rv ti ri:Value) (dz dA dB dD:Value) (aD:List (TK×Value×Value)) (aG:List (RU×Value)) (lt lr:List Int) (w0 w:World) (h0:PI w0 p U k0 d0 wv dz dA dB dD) (aC:LI w0 w p U k wv tv rv ti ri aD aG lt lr) (h5:V[k]? = some (5,[])) :
 Calls Tryz.prog 23 #[.pointer (some ⟨p,0,none⟩)] w fun x w'=>x=.returned (.tuple #[])∧LI w0 w' p U (k+1) wv tv rv ti ri aD aG lt lr:=by
 have dw:=aC.x.lt
 have hp0:=h0.lt
 have hkl:=aC.x.le
 have hsm:=aC.x.small
 have rG:=aC.n3
 have sJ:=aC.c.size
 obtain⟨o5,c5,hv5⟩:=au aC.it
 subst hv5
 have hfd0:∀(a c:Int) (b:ByteArray) (w:World),(Instr.field 72 (.agg #[.int .i64 a,.string b,.int .i64 c]) 0).run Tryz.prog w=.ok (.int .i64 a) w:=fun _ _ _ _=>by kernel_rfl
 have CB:∀(a c:Int) (b:ByteArray) (w:World),(Instr.field 72 (.agg #[.int .i64 a,.string b,.int .i64 c]) 2).run Tryz.prog w=.ok (.int .i64 c) w:=fun _ _ _ _=>by kernel_rfl
 obtain⟨⟨qk,qb,qn⟩,hqq⟩:=hV.at hkl
 obtain⟨e1,e2⟩:=jM (b:=⟨#[]⟩) hV hqq h5
 dsimp only at e1 e2
 obtain rfl:(5:Int)=qk:=e1.symm
 obtain⟨ii,hi0,hi1,hi2,hi3⟩:=qj
 have aU:=Lib.hid aC
 have HX0:=Lib.hid h0
 have HQ:=Lib.hid hqq
 clear aC h0 h5 hqq e1 e2
 go_enter Tryz.func23,Tryz.ntmps23
 go_wp2_with fail
 refine(bD p k 0 U wv tv rv (.slice o5 lt.length c5) ri ((5:Int),qb,qn) _ aU.out.x HQ.out).mono ?_
 rintro x w1 ⟨rfl,hb1⟩
 dsimp only[iZ]
 have H1:=Lib.hid (aU.out.ch hp0 (Ch.of hb1) (aU.out.x.moved hb1) (Nat.le_refl _))
 clear hb1
 go_wp2_with fail
 refine(dO 5 _).mono ?_
 rintro x lQ ⟨b12,rfl,hbx,hbt⟩
 have aF:=Lib.hid (And.intro (H1.out.x.moved hbt) (And.intro hbx hbt))
 clear hbx hbt
 go_wp2_with fail
 refine(oO p k 0 U wv tv rv (.slice o5 lt.length c5) ri 5 b12 ((5:Int),qb,qn) _ (by decide) aF.out.1 HQ.out aF.out.2.1).mono ?_
 rintro x w2 ⟨rfl,hc2,hx2⟩
 replace hc2:=(Ch.of (p:=p) aF.out.2.2).trans hc2
 rw[show iU 5 ((5:Int),qb,qn)=true from rfl] at hx2 ⊢
 rw[if_pos rfl] at hx2
 have H2:=Lib.hid (H1.out.ch hp0 hc2 hx2 (Nat.le_succ _))
 clear hc2 hx2
 go_wp2_with fail
 exact bodyPost_ret (results_none rfl _ _ _) rfl ⟨rfl,H2.out⟩
theorem NU (p k k0 d0:Nat) (U:List Uw) (V:Pm.Ws) (hV:iq V U) (wv tv rv ti ri:Value) (dz dA dB dD:Value) (aD:List (TK×Value×Value)) (aG:List (RU×Value)) (lt lr:List Int) (t:TK) (tx:ByteArray) (w0 w:World) (h0:PI w0 p U k0 d0 wv dz dA dB dD) (aC:LI w0 w p U k wv tv rv ti ri aD aG lt lr) (hT:Pm.LG V k t tx) (hsz:∀w,Calls Tryz.prog 14 #[.string tx] w (lZ t.re w)) (h5:V[k+6]? = some (5,[])) :
 Calls Tryz.prog 23 #[.pointer (some ⟨p,0,none⟩)] w fun x w'=>x=.returned (.tuple #[])∧∃tv' Nt a b n,LI w0 w' p U (k+7) wv tv' rv Nt ri (aD++[(t,a,b)]) aG (lt++[n]) lr:=by
 have dw:=aC.x.lt
 have hp0:=h0.lt
 have hkl:=aC.x.le
 have hsm:=aC.x.small
 have rG:=aC.n3
 have sJ:=aC.c.size
 obtain⟨o5,c5,hv5⟩:=au aC.it
 subst hv5
 have hfd0:∀(a c:Int) (b:ByteArray) (w:World),(Instr.field 72 (.agg #[.int .i64 a,.string b,.int .i64 c]) 0).run Tryz.prog w=.ok (.int .i64 a) w:=fun _ _ _ _=>by kernel_rfl
 have CB:∀(a c:Int) (b:ByteArray) (w:World),(Instr.field 72 (.agg #[.int .i64 a,.string b,.int .i64 c]) 2).run Tryz.prog w=.ok (.int .i64 c) w:=fun _ _ _ _=>by kernel_rfl
 obtain⟨⟨qk,qb,qn⟩,hqq⟩:=hV.at hkl
 obtain⟨e1,e2⟩:=jM (b:=⟨#[116,111,107]⟩) hV hqq hT.w0
 dsimp only at e1 e2
 obtain rfl:(1:Int)=qk:=e1.symm
 obtain rfl:⟨#[116,111,107]⟩=qb:=e2.symm
 obtain⟨ii,hi0,hi1,hi2,hi3⟩:=qj
 have aU:=Lib.hid aC
 have HX0:=Lib.hid h0
 have gK:=Lib.hid (And.intro hT (And.intro hsz h5))
 have HQ:=Lib.hid hqq
 clear aC h0 hT hsz h5 hqq e1 e2
 go_enter Tryz.func23,Tryz.ntmps23
 go_wp2_with fail
 refine(bD p k 0 U wv tv rv (.slice o5 lt.length c5) ri ((1:Int),⟨#[116,111,107]⟩,qn) _ aU.out.x HQ.out).mono ?_
 rintro x w1 ⟨rfl,hb1⟩
 dsimp only[iZ]
 have H1:=Lib.hid (aU.out.ch hp0 (Ch.of hb1) (aU.out.x.moved hb1) (Nat.le_refl _))
 clear hb1
 go_wp2_with fail
 refine(dO 5 _).mono ?_
 rintro x lQ ⟨b12,rfl,hbx,hbt⟩
 have aF:=Lib.hid (And.intro (H1.out.x.moved hbt) (And.intro hbx hbt))
 clear hbx hbt
 go_wp2_with fail
 refine(oO p k 0 U wv tv rv (.slice o5 lt.length c5) ri 5 b12 ((1:Int),⟨#[116,111,107]⟩,qn) _ (by decide) aF.out.1 HQ.out aF.out.2.1).mono ?_
 rintro x w2 ⟨rfl,hc2,hx2⟩
 replace hc2:=(Ch.of (p:=p) aF.out.2.2).trans hc2
 rw[show iU 5 ((1:Int),⟨#[116,111,107]⟩,qn)=false from rfl] at hx2 ⊢
 rw[if_neg (by decide)] at hx2
 have H2:=Lib.hid (H1.out.ch hp0 hc2 hx2 (Nat.le_refl _))
 clear hc2 hx2
 go_wp2_with fail
 refine(aH 1 ⟨#[116,111,107]⟩ _).mono ?_
 rintro x vg ⟨b13,kD,rfl,hbx,hbt⟩
 have bL:=Lib.hid (And.intro (H2.out.x.moved hbt) (And.intro hbx hbt))
 clear hbx hbt
 go_wp2_with fail
 refine(bV p k 0 U wv tv rv (.slice o5 lt.length c5) ri 1 ⟨#[116,111,107]⟩ b13 kD ((1:Int),⟨#[116,111,107]⟩,qn) _ (by decide) bL.out.1 HQ.out bL.out.2.1 ?_ ?_).mono ?_
 · intro e;have h1:=bL.out.1.hh;rw[←e,bL.out.2.1.h1] at h1;cases h1
 · intro e;have h1:=bL.out.1.hh;rw[←e,bL.out.2.1.h2] at h1;cases h1
 rintro x w3 ⟨rfl,hc3,hx3⟩
 replace hc3:=(Ch.of (p:=p) bL.out.2.2).trans hc3
 rw[show tst 1 ⟨#[116,111,107]⟩ ((1:Int),⟨#[116,111,107]⟩,qn)=true from by rw[iV hV HQ.out (by decide)];exact decide_eq_true gK.out.1.w0] at hx3 ⊢
 rw[if_pos rfl] at hx3
 have gQ:=H2.out.ch hp0 hc3 hx3 (Nat.le_succ _)
 clear hc3 hx3
 have hpz:p<w3.heap.size:=lt_of_some gQ.x.hh
 have uS:w0.heap.size≤w3.heap.size:=gQ.c.size
 obtain⟨⟨c0,c1,c2,c3,c4,vo,c6⟩,f0,f1,f2,f3,f4,f5,f6⟩:=aM gQ.x.hh
 have H4:=Lib.hid gQ
 have hpn:¬p=w3.heap.size:=by omega
 have uT:¬w3.heap.size=p:=by omega
 clear gQ
 go_wp2_with (at_builtin;refine aW _ rfl _ _ 31 rfl w0.heap.size 3 ii _ 1 8 Tryz.underlying31 hi0 hi1 hi2 hi3 rfl (by decide) (.slice o5 lt.length c5) lt.length (lt.map (Value.int .i64)) rfl (by repeat (first|exact H4.out.it|refine World.ownsRow.alloc ?_ _|refine bX ?_)) _ 1 _ rfl (by exact bE rfl (by simp)) rfl (by simp[Value.oneCell']) (by unfold maxLen;omega) (by omega) (by simp;omega) ?_;intro v9 w9 aI fu dP bF;obtain⟨o9,c9,rfl⟩:=au aI;have iy:=(bF.block p hp0).trans (aB (by repeat (first|exact Below.refl _ _|refine Below.drew ?_|refine ah ?_ _)) H4.out.x.hh);obtain⟨⟨z0,z1,z2,z3,z4,z5,z6⟩,y0,y1,y2,y3,y4,y5,y6⟩:=aM iy)
 have kM:=LI.Kl HX0.out H4.out (q:=(qn:Int)) (by repeat (first|exact Below.refl _ _|refine Below.drew ?_|refine ah ?_ _)) aI fu dP bF (by omega)
 have H5:=Lib.hid kM
 clear kM aI fu dP bF iy z0 z1 z2 z3 z4 z5 z6 y0 y1 y2 y3 y4 y5 y6 c0 c1 c2 c3 c4 vo c6 f0 f1 f2 f3 f4 f5 f6
 refine(LA p k k0 d0 U V hV wv tv rv _ ri dz dA dB dD aD aG _ lr t tx w0 _ HX0.out H5.out gK.out.1 gK.out.2.1).mono ?_
 rintro x w6 ⟨rfl,tv',a,b,oq⟩
 obtain⟨⟨ek,eb,en⟩,eB⟩:=hV.at oq.x.le
 obtain⟨e1,e2⟩:=jM (b:=⟨#[]⟩) hV eB gK.out.2.2
 dsimp only at e1 e2
 obtain rfl:(5:Int)=ek:=e1.symm
 have H6:=Lib.hid oq
 have nN:=Lib.hid eB
 clear oq eB e1 e2
 go_wp2_with fail
 refine(bD p (k+6) 0 U wv tv' rv (.slice o9 (lt.length+1) c9) ri ((5:Int),eb,en) _ H6.out.x nN.out).mono ?_
 rintro x w7 ⟨rfl,gY⟩
 dsimp only[iZ]
 have H7:=Lib.hid (H6.out.ch hp0 (Ch.of gY) (H6.out.x.moved gY) (Nat.le_refl _))
 clear gY
 go_wp2_with fail
 refine(dO 5 _).mono ?_
 rintro x WC ⟨b18,rfl,hbx,hbt⟩
 have qZ:=Lib.hid (And.intro (H7.out.x.moved hbt) (And.intro hbx hbt))
 clear hbx hbt
 go_wp2_with fail
 refine(rz p (k+6) 0 U wv tv' rv (.slice o9 (lt.length+1) c9) ri 5 b18 ((5:Int),eb,en) _ (by decide) qZ.out.1 nN.out qZ.out.2.1 (show iU 5 ((5:Int),eb,en)=true from rfl)).mono ?_
 rintro x w8 ⟨rfl,hc8,jQ⟩
 replace hc8:=(Ch.of (p:=p) qZ.out.2.2).trans hc8
 have bY:=H7.out.ch hp0 hc8 jQ (Nat.le_succ _)
 clear hc8 jQ
 go_wp2_with fail
 go_end0
 exact⟨rfl,_,_,_,_,_,bY⟩
theorem LB (p k k0 d0:Nat) (U:List Uw) (V:Pm.Ws) (hV:iq V U) (wv tv rv ti ri:Value) (dz dA dB dD:Value) (aD:List (TK×Value×Value)) (aG:List (RU×Value)) (lt lr:List Int) (t:RU) (k2:Nat) (w0 w:World) (h0:PI w0 p U k0 d0 wv dz dA dB dD) (aC:LI w0 w p U k wv tv rv ti ri aD aG lt lr) (hT:Pm.Ir V k t k2) (h5:V[k2]? = some (5,[])) :
 Calls Tryz.prog 23 #[.pointer (some ⟨p,0,none⟩)] w fun x w'=>x=.returned (.tuple #[])∧∃rv' Nu a n,LI w0 w' p U (k2+1) wv tv rv' ti Nu aD (aG++[(t,a)]) lt (lr++[n]):=by
 have dw:=aC.x.lt
 have hp0:=h0.lt
 have hkl:=aC.x.le
 have hsm:=aC.x.small
 have rG:=aC.n4
 have sJ:=aC.c.size
 obtain⟨o5,c5,hv5⟩:=au aC.ir
 subst hv5
 have hfd0:∀(a c:Int) (b:ByteArray) (w:World),(Instr.field 72 (.agg #[.int .i64 a,.string b,.int .i64 c]) 0).run Tryz.prog w=.ok (.int .i64 a) w:=fun _ _ _ _=>by kernel_rfl
 have CB:∀(a c:Int) (b:ByteArray) (w:World),(Instr.field 72 (.agg #[.int .i64 a,.string b,.int .i64 c]) 2).run Tryz.prog w=.ok (.int .i64 c) w:=fun _ _ _ _=>by kernel_rfl
 obtain⟨⟨qk,qb,qn⟩,hqq⟩:=hV.at hkl
 obtain⟨e1,e2⟩:=jM (b:=⟨#[114,117,108,101]⟩) hV hqq hT.w0
 dsimp only at e1 e2
 obtain rfl:(1:Int)=qk:=e1.symm
 obtain rfl:⟨#[114,117,108,101]⟩=qb:=e2.symm
 obtain⟨ii,hi0,hi1,hi2,hi3⟩:=qj
 have aU:=Lib.hid aC
 have HX0:=Lib.hid h0
 have gK:=Lib.hid (And.intro hT h5)
 have HQ:=Lib.hid hqq
 clear aC h0 hT h5 hqq e1 e2
 go_enter Tryz.func23,Tryz.ntmps23
 go_wp2_with fail
 refine(bD p k 0 U wv tv rv ti (.slice o5 lr.length c5) ((1:Int),⟨#[114,117,108,101]⟩,qn) _ aU.out.x HQ.out).mono ?_
 rintro x w1 ⟨rfl,hb1⟩
 dsimp only[iZ]
 have H1:=Lib.hid (aU.out.ch hp0 (Ch.of hb1) (aU.out.x.moved hb1) (Nat.le_refl _))
 clear hb1
 go_wp2_with fail
 refine(dO 5 _).mono ?_
 rintro x lQ ⟨b12,rfl,hbx,hbt⟩
 have aF:=Lib.hid (And.intro (H1.out.x.moved hbt) (And.intro hbx hbt))
 clear hbx hbt
 go_wp2_with fail
 refine(oO p k 0 U wv tv rv ti (.slice o5 lr.length c5) 5 b12 ((1:Int),⟨#[114,117,108,101]⟩,qn) _ (by decide) aF.out.1 HQ.out aF.out.2.1).mono ?_
 rintro x w2 ⟨rfl,hc2,hx2⟩
 replace hc2:=(Ch.of (p:=p) aF.out.2.2).trans hc2
 rw[show iU 5 ((1:Int),⟨#[114,117,108,101]⟩,qn)=false from rfl] at hx2 ⊢
 rw[if_neg (by decide)] at hx2
 have H2:=Lib.hid (H1.out.ch hp0 hc2 hx2 (Nat.le_refl _))
 clear hc2 hx2
 go_wp2_with fail
 refine(aH 1 ⟨#[116,111,107]⟩ _).mono ?_
 rintro x vg ⟨b13,kD,rfl,hbx,hbt⟩
 have bL:=Lib.hid (And.intro (H2.out.x.moved hbt) (And.intro hbx hbt))
 clear hbx hbt
 go_wp2_with fail
 refine(bV p k 0 U wv tv rv ti (.slice o5 lr.length c5) 1 ⟨#[116,111,107]⟩ b13 kD ((1:Int),⟨#[114,117,108,101]⟩,qn) _ (by decide) bL.out.1 HQ.out bL.out.2.1 ?_ ?_).mono ?_
 · intro e;have h1:=bL.out.1.hh;rw[←e,bL.out.2.1.h1] at h1;cases h1
 · intro e;have h1:=bL.out.1.hh;rw[←e,bL.out.2.1.h2] at h1;cases h1
 rintro x w3 ⟨rfl,hc3,hx3⟩
 replace hc3:=(Ch.of (p:=p) bL.out.2.2).trans hc3
 rw[show tst 1 ⟨#[116,111,107]⟩ ((1:Int),⟨#[114,117,108,101]⟩,qn)=false from by rw[iV hV HQ.out (by decide)];exact decide_eq_false (fun e=>by rw[gK.out.1.w0] at e;revert e;decide)] at hx3 ⊢
 rw[if_neg (by decide)] at hx3
 have H3:=Lib.hid (H2.out.ch hp0 hc3 hx3 (Nat.le_refl _))
 clear hc3 hx3
 go_wp2_with fail
 refine(aH 1 ⟨#[114,117,108,101]⟩ _).mono ?_
 rintro x Rz ⟨b14,Ci,rfl,hbx,hbt⟩
 have gI:=Lib.hid (And.intro (H3.out.x.moved hbt) (And.intro hbx hbt))
 clear hbx hbt
 go_wp2_with fail
 refine(kL p k 0 U wv tv rv ti (.slice o5 lr.length c5) 1 ⟨#[114,117,108,101]⟩ b14 Ci ((1:Int),⟨#[114,117,108,101]⟩,qn) _ (by decide) gI.out.1 HQ.out gI.out.2.1 ?_ ?_ (show tst 1 ⟨#[114,117,108,101]⟩ ((1:Int),⟨#[114,117,108,101]⟩,qn)=true from by rw[iV hV HQ.out (by decide)];exact decide_eq_true gK.out.1.w0)).mono ?_
 · intro e;have h1:=gI.out.1.hh;rw[←e,gI.out.2.1.h1] at h1;cases h1
 · intro e;have h1:=gI.out.1.hh;rw[←e,gI.out.2.1.h2] at h1;cases h1
 rintro x w4 ⟨rfl,hc4,hx4⟩
 replace hc4:=(Ch.of (p:=p) gI.out.2.2).trans hc4
 have gQ:=H3.out.ch hp0 hc4 hx4 (Nat.le_succ _)
 clear hc4 hx4
 have hpz:p<w4.heap.size:=lt_of_some gQ.x.hh
 have uS:w0.heap.size≤w4.heap.size:=gQ.c.size
 obtain⟨⟨c0,c1,c2,c3,c4,vo,c6⟩,f0,f1,f2,f3,f4,f5,f6⟩:=aM gQ.x.hh
 have H4:=Lib.hid gQ
 have hpn:¬p=w4.heap.size:=by omega
 have uT:¬w4.heap.size=p:=by omega
 clear gQ
 go_wp2_with (at_builtin;refine aW _ rfl _ _ 31 rfl w0.heap.size 3 ii _ 1 8 Tryz.underlying31 hi0 hi1 hi2 hi3 rfl (by decide) (.slice o5 lr.length c5) lr.length (lr.map (Value.int .i64)) rfl (by repeat (first|exact H4.out.ir|refine World.ownsRow.alloc ?_ _|refine bX ?_)) _ 1 _ rfl (by exact bE rfl (by simp)) rfl (by simp[Value.oneCell']) (by unfold maxLen;omega) (by omega) (by simp;omega) ?_;intro v9 w9 aI fu dP bF;obtain⟨o9,c9,rfl⟩:=au aI;have iy:=(bF.block p hp0).trans (aB (by repeat (first|exact Below.refl _ _|refine Below.drew ?_|refine ah ?_ _)) H4.out.x.hh);obtain⟨⟨z0,z1,z2,z3,z4,z5,z6⟩,y0,y1,y2,y3,y4,y5,y6⟩:=aM iy)
 have kM:=LI.pushB HX0.out H4.out (q:=(qn:Int)) (by repeat (first|exact Below.refl _ _|refine Below.drew ?_|refine ah ?_ _)) aI fu dP bF (by omega)
 have H5:=Lib.hid kM
 clear kM aI fu dP bF iy z0 z1 z2 z3 z4 z5 z6 y0 y1 y2 y3 y4 y5 y6 c0 c1 c2 c3 c4 vo c6 f0 f1 f2 f3 f4 f5 f6
 go_wp2_with fail
 refine(NV p k k2 k0 d0 U V hV wv tv rv ti _ dz dA dB dD aD aG lt _ t w0 _ HX0.out H5.out gK.out.1).mono ?_
 rintro x w6 ⟨rfl,rv',a,oq⟩
 obtain⟨⟨ek,eb,en⟩,eB⟩:=hV.at oq.x.le
 obtain⟨e1,e2⟩:=jM (b:=⟨#[]⟩) hV eB gK.out.2
 dsimp only at e1 e2
 obtain rfl:(5:Int)=ek:=e1.symm
 have H6:=Lib.hid oq
 have nN:=Lib.hid eB
 clear oq eB e1 e2
 go_wp2_with fail
 refine(bD p k2 0 U wv tv rv' ti (.slice o9 (lr.length+1) c9) ((5:Int),eb,en) _ H6.out.x nN.out).mono ?_
 rintro x w7 ⟨rfl,gY⟩
 dsimp only[iZ]
 have H7:=Lib.hid (H6.out.ch hp0 (Ch.of gY) (H6.out.x.moved gY) (Nat.le_refl _))
 clear gY
 go_wp2_with fail
 refine(dO 5 _).mono ?_
 rintro x WC ⟨b18,rfl,hbx,hbt⟩
 have qZ:=Lib.hid (And.intro (H7.out.x.moved hbt) (And.intro hbx hbt))
 clear hbx hbt
 go_wp2_with fail
 refine(rz p k2 0 U wv tv rv' ti (.slice o9 (lr.length+1) c9) 5 b18 ((5:Int),eb,en) _ (by decide) qZ.out.1 nN.out qZ.out.2.1 (show iU 5 ((5:Int),eb,en)=true from rfl)).mono ?_
 rintro x w8 ⟨rfl,hc8,jQ⟩
 replace hc8:=(Ch.of (p:=p) qZ.out.2.2).trans hc8
 have bY:=H7.out.ch hp0 hc8 jQ (Nat.le_succ _)
 clear hc8 jQ
 go_wp2_with fail
 go_end0
 exact⟨rfl,_,_,_,_,bY⟩
end Go.Proofs.YtfkmajjgkdjncaaGreatDoor

set_option maxHeartbeats 4000000
set_option maxRecDepth 100000
namespace Go.Proofs.YtfkmajjgkdjncaaGreatDoor
open Go.RowKit De Wd
theorem BS (p k:Nat) (U:List Uw) (wv tv rv ti ri:Value) (aD:List (TK×Value×Value)) (aG:List (RU×Value)) (lt lr:List Int) (w0 w:World) (hp0:p<w0.heap.size) (aC:LI w0 w p U k wv tv rv ti ri aD aG lt lr)
 (iH:aD.length≤1000) (hRl:aG.length≤1000) (fJ:oK (aD.map (·.1))) (fK:oL (aG.map (·.1))) (hc:(jd (aD.map (·.1)) (aG.map (·.1))).1=0) :
 Calls Tryz.prog 24 #[.pointer (some ⟨p,0,none⟩)] w fun x w'=>x=.returned (.tuple #[])∧LI w0 w' p U k wv tv rv ti ri aD aG lt lr:=by
 have HG:=Lib.hid (oh (aD.map (·.1)) (aG.map (·.1)) tv rv w aC.tk.are aC.ru.are (by simpa using iH) (by simpa using hRl) fJ fK)
 obtain⟨⟨c0,c1,c2,c3,c4,c5,c6⟩,f0,f1,f2,f3,f4,f5,f6⟩:=aM aC.x.hh
 have aU:=Lib.hid aC
 have HC:=Lib.hid hc
 clear aC hc fJ fK
 go_enter Tryz.func24,Tryz.ntmps24
 go_wp2_with fail
 refine HG.out.mono ?_
 rintro x w2 ⟨rfl,hb2⟩
 rw[HC.out]
 have iP:=aU.out.ch hp0 (Ch.of hb2) (aU.out.x.moved hb2) (Nat.le_refl _)
 have H2:=Lib.hid iP
 clear hb2 iP
 go_wp2_with fail
 exact bodyPost_ret (results_none rfl _ _ _) rfl ⟨rfl,H2.out⟩
end Go.Proofs.YtfkmajjgkdjncaaGreatDoor

set_option maxHeartbeats 4000000
set_option maxRecDepth 1000000
namespace Go.Proofs.YtfkmajjgkdjncaaGreatDoor
open Go.RowKit De Wd
def nD (s:ByteArray) (W:List (Nat×Wt)):List Uw:=W.map (fun p=>(p.2.k,s.extract (p.1+p.2.o) (p.1+p.2.o+p.2.n),if p.2.k=0 then 0 else p.1))++[(0,⟨#[]⟩,s.size)]
theorem rZ (s:ByteArray) (W:List (Nat×Wt)):(nD s W).length=W.length+1:=by simp[nD]
theorem wS (s:ByteArray) (W:List (Nat×Wt)):(nD s W).flatMap u3=oC s W++[.int .i64 0,.string ⟨#[]⟩,.int .i64 s.size]:=by
 unfold nD oC
 rw[List.flatMap_append,List.flatMap_map]
 congr 1
 congr 1
 funext p
 simp only[u3,iJ]
 split<;>simp
theorem xK {s:ByteArray} {W:List (Nat×Wt)} (hp:∀v∈W.map (vw (sb s)),v.1≠0):iq (W.map (vw (sb s))) (nD s W):=by
 refine⟨by simp[nD],fun k q hq hk=>?_,fun q hq=>?_,fun k v hv=>hp v (List.mem_of_getElem? hv)⟩
 · unfold nD at hq
   rw[List.getElem?_append_left (by simpa using hk),List.getElem?_map] at hq
   rw[List.getElem?_map]
   simp only[List.length_map] at hk
   rw[List.getElem?_eq_getElem hk] at hq ⊢
   simp only[Option.map_some,Option.some.injEq] at hq ⊢
   subst hq
   unfold vw
   rw[uR]
   simp only[Prod.mk.injEq,true_and]
   congr 1
   omega
 · unfold nD at hq
   rw[List.getElem?_append_right (by simp)] at hq
   simp at hq
   rw[←hq]
structure bR (w w':World) (a b:Value):Prop where
 h0:w'.heap[w.heap.size]? = some (.cells #[a,b] 26 (0,0))
 h1:w'.heap[w.heap.size+1]? = some (.cells #[.int .i64 0] 3 (0,0))
 h2:w'.heap[w.heap.size+1+1]? = some (.cells #[.int .i64 0] 3 (0,0))
 aV:Below w.heap.size w w'
theorem bR.below {w a b:World} {x y:Value} (h:bR w a x y) (hs:w.heap.size+1+1<a.heap.size) (hb:Below a.heap.size a b):bR w b x y:=
 ⟨by rw[hb.block _ (by omega)];exact h.h0,by rw[hb.block _ (by omega)];exact h.h1,by rw[hb.block _ (by omega)];exact h.h2,h.aV.trans (hb.mono h.aV.size)⟩
theorem bR.ch {w a b:World} {x y:Value} {p:Nat} (h:bR w a x y) (hs:w.heap.size+1+1<a.heap.size) (hp:w.heap.size+1+1<p) (hb:Ch a b p):bR w b x y:=
 ⟨by rw[hb.block _ (by omega) (by omega)];exact h.h0,by rw[hb.block _ (by omega) (by omega)];exact h.h1,by rw[hb.block _ (by omega) (by omega)];exact h.h2,h.aV.trans ⟨hb.os,hb.tape,hb.output,hb.size,fun k hk=>hb.block k (by have:=h.aV.size;omega) (by omega)⟩⟩
theorem bR.set {w a:World} {x y x' y':Value} (h:bR w a x y):bR w ((a.setCell ⟨w.heap.size,0,none⟩ x').setCell ⟨w.heap.size,1,none⟩ y') x' y':=by
 have h0:=h.h0
 refine⟨by simp[World.setCell,Array.getElem?_modify,h0],?_,?_,(h.aV.setCell (Nat.le_refl _) _).setCell (Nat.le_refl _) _⟩
 · rw[Below.heap_setCell _ _ _ _ (by simp),Below.heap_setCell _ _ _ _ (by simp)];exact h.h1
 · rw[Below.heap_setCell _ _ _ _ (by simp;omega),Below.heap_setCell _ _ _ _ (by simp;omega)];exact h.h2
theorem bR.zero {w a:World} {x y:Value} (h:bR w a x y):bR w ((a.setCell ⟨w.heap.size+1,0,none⟩ (.int .i64 0)).setCell ⟨w.heap.size+1+1,0,none⟩ (.int .i64 0)) x y:=by
 have h1:=h.h1
 have h2:=h.h2
 refine⟨?_,?_,?_,(h.aV.setCell (by simp) _).setCell (by simp<;>omega) _⟩
 · rw[Below.heap_setCell _ _ _ _ (by simp;omega),Below.heap_setCell _ _ _ _ (by simp)];exact h.h0
 · rw[Below.heap_setCell _ _ _ _ (by simp)];exact set1 h1 _
 · refine set1 (a := .int .i64 0) ?_ _
   rw[Below.heap_setCell _ _ _ _ (by simp)];exact h2
def Cz (T:List TK) (R:List RU) (w:World) (x:Ending) (w':World):Prop:=
 ∃tv rv,x=.returned (.tuple #[.agg #[tv,rv],.int .i64 0,.int .i64 0])∧iO w' tv T∧jE w' rv R∧Below w.heap.size w w'
theorem zN (p q r:Nat) (w:World) :
 CallsD Tryz.prog 20 #[.pointer (some ⟨p,0,none⟩),.pointer (some ⟨q,0,none⟩),.pointer (some ⟨r,0,none⟩)] .returning w fun e u' w'=>
  e=.returned (.tuple #[])∧u'=.returning∧w'=w.alloc (.cells #[.int .i64 0,.int .i64 0] 65):=by
 have ta:∀w,(Instr.typeAssert .nilIface 20 65 true).run Tryz.prog w=.ok (.tuple #[.agg #[.int .i64 0,.int .i64 0],.bool false]) w:=fun w=>by kernel_rfl
 refine callsD_of_wpS Tryz.func20 rfl fun c₀ cs hu=>?_
 simp only[Tryz.ntmps20,List.size_toArray,List.length_cons,List.length_nil,Nat.reduceAdd,Nat.reduceSub,Array.replicate_succ,Array.replicate_zero,List.push_toArray,List.append_toArray,List.nil_append,List.cons_append]
 have hrec:dW (c₀::cs)=(.nilIface,c₀::cs):=by
  simp[dW,recoverD,hu]
 apply wpS_seq
 refine bO rfl rfl ?_
 rw[hrec]
 have HU:=Lib.hid hu
 clear hrec hu
 go_wp2
 simp only[Exit.thenS]
 refine wpS_of_wp (wp_mono (Q:=fun x a w'=>x=.normal∧a.defers=[]∧w'=w.alloc (.cells #[.int .i64 0,.int .i64 0] 65)) ?_ ?_)
 · go_wp2
 · rintro e a w' ⟨rfl, hdf, rfl⟩
   exact⟨hdf,.returning,by have:=HU.out;cases c₀;simp_all,.tuple #[],results_none rfl _ _ _,rfl,rfl,rfl⟩
theorem Iu {V:Pm.Ws} {d k k':Nat} {e:PT} (h:Pm.iT V d k e k'):k≤k':=by
 refine Pm.iT.rec (V:=V)
  (motive_1:=fun d k e k' _=>k≤k') (motive_2:=fun d a k e k' _=>k≤k') (motive_3:=fun d k e k' _=>k≤k') (motive_4:=fun d a k e k' _=>k≤k')
  (motive_5:=fun d k e k' _=>k≤k') (motive_6:=fun a k e k' _=>k≤k') (motive_7:=fun d k e k' _=>k≤k') ?_ ?_ ?_ ?_ ?_ ?_ ?_ ?_ ?_ ?_ ?_ ?_ ?_ ?_ h
 all_goals intros
 all_goals first|omega|(have h1:=iR ‹_›;omega)|skip
 all_goals (rename_i n _ _ _ n2 _ _;have h1:=iR n;have h2:=iR n2;omega)
theorem NW {V:Pm.Ws} {j j1:Nat} {s:ST} (h:Pm.Stp V j s j1):j≤j1:=by
 rcases Dq h with⟨-,-,h9⟩|⟨-,j2,-,h8,-,h9⟩
 · exact Iu h9
 · have := Iu h9
   have:=iR h8
   omega
theorem bR.BR {w a b:World} {x y:Value} {B:Nat} (h:bR w a x y) (hB:w.heap.size+1+1<B) (hb:Below B a b):bR w b x y:=
 ⟨by rw[hb.block _ (by omega)];exact h.h0,by rw[hb.block _ (by omega)];exact h.h1,by rw[hb.block _ (by omega)];exact h.h2,h.aV.trans (jo (by omega) hb)⟩
theorem Tv {V:Pm.Ws} {k k1:Nat} {r:RU} (h:Pm.Ir V k r k1):k<k1:=by
 have hl : ∀ {j j1 : Nat} {l : List ST}, Pm.yY V j l j1 → j ≤ j1 := fun {j j1 l} h => by
  induction h with
  | last h _=>exact NW h
  | more h _ _ ih=>exact Nat.le_trans (NW h) ih
 by_cases hf:r.free=true
 · have:=hl (h.f1 hf).2;omega
 · have:=hl (h.f0 (Bool.eq_false_iff.2 hf)).2;omega
theorem dV {w:World} {p:Nat} {a b:Value} {t:TypeId} (h:w.heap[p]? = some (.cells #[a,b] t (0,0))):(w.cell? ⟨p,0,none⟩=some a∧w.cell? ⟨p,1,none⟩=some b)∧w.frozen? ⟨p,0,none⟩=false∧w.frozen? ⟨p,1,none⟩=false:=by
 simp[World.cell?,World.frozen?,h]
theorem LI.start {w:World} {p:Nat} {U:List Uw} {wv:Value} (h:PI w p U 0 0 wv (.slice none 0 0) (.slice none 0 0) (.slice none 0 0) (.slice none 0 0)):LI w w p U 0 wv (.slice none 0 0) (.slice none 0 0) (.slice none 0 0) (.slice none 0 0) [] [] [] []:=by
 have ha:Apart (.slice none 0 0) (.slice none 0 0):=fun k h1 _=>by cases h1
 exact⟨h,Ch.refl _ _,Own.nil,Own.nil,World.ownsRow_nil _ _ _ _,World.ownsRow_nil _ _ _ _,ha,ha,ha,ha,ha,ha,Nat.le_refl _,Nat.le_refl _,Nat.le_refl _,Nat.le_refl _⟩
theorem LH (s:ByteArray) (W:List (Nat×Wt)) (T:List TK) (R:List RU) (w:World) (hs:s.size≤100000) (hr:rs (sb s)=.ok W) (hp:∀v∈W.map (vw (sb s)),v.1≠0) (TA:Nat→TK→Prop) (hL:Pm.u7 (W.map (vw (sb s))) TA 0 T R) (Wm:W.length≤100000)
 (hsz:∀k t,TA k t→∃tx,Pm.LG (W.map (vw (sb s))) k t tx∧∀w,Calls Tryz.prog 14 #[.string tx] w (lZ t.re w)) (iH:T.length≤1000) (hRl:R.length≤1000) (fJ:oK T) (fK:oL R) (hc:(jd T R).1=0) :
 Calls Tryz.prog 10 #[.string s] w (Cz T R w):=by
 have ng:∀(fn:Fn) (first cap:Array Value) (w:World),(Instr.makeFunc fn first cap).run Tryz.prog w=.ok (.func fn first cap) w:=fun _ _ _ _=>rfl
 have hfd0:∀(a c:Int) (b:ByteArray) (w:World),(Instr.field 72 (.agg #[.int .i64 a,.string b,.int .i64 c]) 0).run Tryz.prog w=.ok (.int .i64 a) w:=fun _ _ _ _=>by kernel_rfl
 have hV:=xK hp
 obtain⟨V,nM⟩:∃V,V=W.map (vw (sb s)):=⟨_,rfl⟩
 have tY:=rZ s W
 have tZ:=wS s W
 obtain⟨U,hU⟩:∃U,U=nD s W:=⟨_,rfl⟩
 rw[←nM,←hU] at hV
 rw[←nM] at hL hp
 simp only[←nM] at hsz
 rw[←hU] at tY tZ
 have Rv:V.length=W.length:=by rw[nM];simp
 obtain⟨iw,hi0,hi1,hi2,hi3⟩:=sW
 obtain⟨W3,hW3⟩:∃W3,W3=(((w.alloc (.cells #[.slice none 0 0,.slice none 0 0] 26)).alloc (.cells #[.int .i64 0] 3)).alloc (.cells #[.int .i64 0] 3)):=⟨_,rfl⟩
 obtain⟨g0,g1,g2,g3,g4⟩:=lD w _ _ _ W3 hW3
 have hall:=nG s W3 hs
 unfold kF at hall
 rw[hr] at hall
 have HA:=Lib.hid hall
 have Gs:=Lib.hid hL
 have HU:=Lib.hid (And.intro tZ (And.intro hV hp))
 have HH:=Lib.hid (And.intro hsz (And.intro fJ (And.intro fK hc)))
 have hsl:(s.size:Int)≤9223372036854775807:=by omega
 have HG:=Lib.hid (And.intro hW3 (And.intro g0 (And.intro g1 (And.intro g2 (And.intro g3 g4)))))
 clear hW3 g0 g1 g2 g3 g4 hall hL hr tZ hV hp hsz fJ fK hc nM hU
 go_enter_defers Tryz.func10,Tryz.ntmps10
 go_wp2_with fail
 obtain⟨hW3,g0,g1,g2,g3,g4⟩:=HG.out
 rw[←hW3]
 refine HA.out.mono ?_
 rintro x w4 ⟨uv,rfl,bN,hb4⟩
 have bQ:bR w w4 (.slice none 0 0) (.slice none 0 0):=bR.below ⟨g0,g1,g2,g4⟩ (by omega) hb4
 have lF:=hb4.size
 obtain⟨ou,cu,rfl⟩:=au bN
 obtain⟨d1,f1⟩:=aj bQ.h1
 obtain⟨d2,f2⟩:=aj bQ.h2
 obtain⟨W4,eT⟩:∃W4,W4=((w4.setCell ⟨w.heap.size+1,0,none⟩ (.int .i64 0)).setCell ⟨w.heap.size+1+1,0,none⟩ (.int .i64 0)):=⟨_,rfl⟩
 have yG:bR w W4 (.slice none 0 0) (.slice none 0 0):=by rw[eT];exact bQ.zero
 have hown:W4.ownsRow W3.heap.size 72 3 (.slice ou W.length cu) W.length (oC s W):=by
  rw[eT];exact aX (aX bN (by omega)) (by omega)
 have oD:W3.heap.size≤W4.heap.size:=by rw[eT];simpa [World.setCell] using lF
 have H4:=Lib.hid (And.intro yG (And.intro hown eT))
 have Wn:W3.heap.size=w.heap.size+1+1+1:=g3
 clear yG hown eT bQ bN hb4 lF hW3 g0 g1 g2 g3 g4 HG
 have hre:(W4=((w4.setCell ⟨w.heap.size+1,0,none⟩ (.int .i64 0)).setCell ⟨w.heap.size+1+1,0,none⟩ (.int .i64 0))):=H4.out.2.2
 have oN:=Lib.hid hre
 clear hre
 obtain⟨e1,Dt⟩:=aj H4.out.1.h1
 have Az:w.heap.size+1+1+1≤W4.heap.size:=by omega
 go_wp2_with (first|(with_reducible rw[←oN.out])|(at_builtin;refine aW _ rfl _ _ 67 rfl W3.heap.size 72 iw _ 3 32 Tryz.underlying67 hi0 hi1 hi2 hi3 rfl (by decide) (.slice ou W.length cu) W.length (oC s W) rfl (by repeat (first|exact H4.out.2.1|refine World.ownsRow.alloc ?_ _|refine bX ?_)) _ 1 _ rfl (by exact bE rfl (by simp)) rfl (by simp[Value.oneCell']) (by unfold maxLen;omega) (by omega) (by simp;omega) ?_;intro v5 w5 hown5 hg5 rO hb5;obtain⟨o5,c5,rfl⟩:=au hown5))
 have om:Below W3.heap.size W4 w5:=Below.trans (jo oD (ah (Below.refl _ _) _)) hb5
 have dM:bR w w5 (.slice none 0 0) (.slice none 0 0):=H4.out.1.BR (by omega) om
 obtain⟨W6,bA⟩:∃W6,W6=w5.alloc (.cells #[.slice o5 (W.length+1) c5,.int .i64 0,.int .i64 0,.slice none 0 0,.slice none 0 0,.slice none 0 0,.slice none 0 0] 74):=⟨_,rfl⟩
 obtain⟨p,hp⟩:∃p,p=w5.heap.size:=⟨_,rfl⟩
 have P6:w.heap.size+1+1+1≤w5.heap.size:=Nat.le_trans Az om.size
 have hpi:PI W6 p U 0 0 (.slice o5 (W.length+1) c5) (.slice none 0 0) (.slice none 0 0) (.slice none 0 0) (.slice none 0 0):=by
  rw[bA]
  refine⟨by rw[hp];exact heap_alloc_new w5 _,?_,fun b off cap e=>?_,by omega,by omega,fun j q hq h0=>?_⟩
  · rw [tY, HU.out.1]
    exact(Row.owned hown5).below (ah (Below.refl _ _) _)
  · rw [tY] at e
    simp only[Value.slice.injEq,true_and] at e
    obtain⟨rfl,rfl⟩:=e
    have:=(hown5.lt b rfl).2
    omega
  · have h1 := (List.getElem?_eq_some_iff.1 hq).1
    rcases Nat.lt_or_ge (j+1) U.length with h2|h2
    · exact h2
    · have : j = V.length := by omega
      subst this
      exact absurd (HU.out.2.1.fin q hq) h0
 have dZ:bR w W6 (.slice none 0 0) (.slice none 0 0):=by rw[bA];exact dM.below (by omega) (ah (Below.refl _ _) _)
 have rD:p<W6.heap.size:=hpi.lt
 have H6:=Lib.hid (And.intro hpi dZ)
 have kH:=Lib.hid bA
 have HP:=Lib.hid hp
 have hps:w.heap.size+1+1<p:=by omega
 clear hown5 hg5 rO hb5 om dM hpi dZ bA hp d1 f1 d2 f2 e1 Dt
 rw[←kH.out]
 simp only[←HP.out]
 go_loopg [] (U.length) (fun g wx=>∃(k:Nat) (tv rv ti ri:Value) (aD:List (TK×Value×Value)) (aG:List (RU×Value)) (lt lr:List Int) (Tr:List TK) (Rr:List RU),k+g=U.length∧LI W6 wx p U k (.slice o5 (W.length+1) c5) tv rv ti ri aD aG lt lr∧T=aD.map (·.1)++Tr∧R=aG.map (·.1)++Rr∧Pm.u7 V TA k Tr Rr)
 case atStart=>exact⟨0,_,_,_,_,[],[],[],[],T,R,by omega,LI.start H6.out.1,by simp,by simp,Gs.out⟩
 case round=>
  obtain⟨k,tv,rv,ti,ri,aD,aG,lt,lr,Tr,Rr,hkg,aC,hT,hR,Xg⟩:=hrel
  have hkl:=aC.x.le
  obtain⟨⟨qk,qb,qn⟩,hqq⟩:=HU.out.2.1.at hkl
  have aU:=Lib.hid aC
  have HQ:=Lib.hid hqq
  have Ep:=Lib.hid (And.intro hT hR)
  have hcase:(k=V.length∧Tr=[]∧Rr=[]∧qk=0)∨(qk≠0∧((∃t m tx,Tr=t::m∧Pm.LG V k t tx∧(∀w,Calls Tryz.prog 14 #[.string tx] w (lZ t.re w))∧V[k+6]? = some (5,[])∧Pm.u7 V TA (k+7) m Rr)∨(∃r m k1,Rr=r::m∧Pm.Ir V k r k1∧V[k1]? = some (5,[])∧Pm.u7 V TA (k1+1) Tr m)∨(V[k]? = some (5,[])∧Pm.u7 V TA (k+1) Tr Rr))):=by
   cases Xg with
   | fin h=>exact .inl ⟨h,rfl,rfl,HU.out.2.1.fin (qk,qb,qn) (by rw[←h];exact hqq)⟩
   | nl h5 r =>
    obtain⟨e1,-⟩:=jM (b:=⟨#[]⟩) HU.out.2.1 hqq h5
    dsimp only at e1
    exact .inr ⟨by rw[e1];decide,.inr (.inr ⟨h5,r⟩)⟩
   | tok h h5 r =>
    obtain⟨tx,h,hre⟩:=HH.out.1 _ _ h
    obtain⟨e1,-⟩:=jM (b:=⟨#[116,111,107]⟩) HU.out.2.1 hqq h.w0
    dsimp only at e1
    exact .inr ⟨by rw[e1];decide,.inl ⟨_,_,tx,rfl,h,hre,h5,r⟩⟩
   | rule h h5 q =>
    obtain⟨e1,-⟩:=jM (b:=⟨#[114,117,108,101]⟩) HU.out.2.1 hqq h.w0
    dsimp only at e1
    exact .inr ⟨by rw[e1];decide,.inr (.inl ⟨_,_,_,rfl,h,h5,q⟩)⟩
  clear aC hqq hT hR Xg
  rcases hcase with⟨hkV,rfl,rfl,rfl⟩|⟨hq0,hl⟩
  · clear hkV
    go_wp2_with fail
    refine(bD p k 0 U _ tv rv ti ri ((0:Int),qb,qn) _ aU.out.x HQ.out).mono ?_
    rintro x w7 ⟨rfl,gY⟩
    dsimp only[iZ]
    have H7:=Lib.hid (aU.out.ch rD (Ch.of gY) (aU.out.x.moved gY) (Nat.le_refl _))
    clear gY
    go_wp2_with fail
    have hT:aD.map (·.1)=T:=by rw[Ep.out.1];simp
    have hR:aG.map (·.1)=R:=by rw[Ep.out.2];simp
    refine(BS p k U _ tv rv ti ri aD aG lt lr W6 _ rD H7.out (by have:=congrArg List.length hT;simp at this;omega) (by have:=congrArg List.length hR;simp at this;omega) (by rw[hT];exact HH.out.2.1) (by rw[hR];exact HH.out.2.2.1) (by rw[hT,hR];exact HH.out.2.2.2)).mono ?_
    rintro x w8 ⟨rfl,bY⟩
    have GU:W6.heap.size≤w8.heap.size:=bY.c.size
    obtain⟨ot,ct,yI⟩:=au bY.tk.row
    obtain⟨BU,cr,p8⟩:=au bY.ru.row
    subst yI p8
    have aZ:bR w w8 (.slice none 0 0) (.slice none 0 0):=H6.out.2.ch (p:=p) (by omega) hps bY.c
    obtain⟨⟨c0,c1,c2,c3,c4,vo,c6⟩,f0,f1,f2,f3,f4,f5,f6⟩:=aM bY.x.hh
    obtain⟨⟨d0,d0'⟩,g0,g0'⟩:=dV aZ.h0
    obtain⟨d1,g1⟩:=aj aZ.h1
    obtain⟨d2,g2⟩:=aj aZ.h2
    have n0:¬p=w.heap.size:=by omega
    have n1:¬p=w.heap.size+1:=by omega
    have n2:¬p=w.heap.size+1+1:=by omega
    have n3:¬w.heap.size=p:=by omega
    have n4:¬w.heap.size+1=p:=by omega
    have n5:¬w.heap.size+1+1=p:=by omega
    obtain⟨W9,bP⟩:∃W9,W9=(((w8.setCell ⟨w.heap.size,0,none⟩ (.slice ot aD.length ct)).setCell ⟨w.heap.size,1,none⟩ (.slice BU aG.length cr)).setCell ⟨w.heap.size+1,0,none⟩ (.int .i64 0)).setCell ⟨w.heap.size+1+1,0,none⟩ (.int .i64 0):=⟨_,rfl⟩
    have gB:bR w W9 (.slice ot aD.length ct) (.slice BU aG.length cr):=by rw[bP];exact(aZ.set).zero
    have hag : Ag (fun j => p < j) w8 W9 := by
     rw[bP]
     refine(((((Ag.refl _ _).setCell (fun h=>?_) _).setCell (fun h=>?_) _).setCell (fun h=>?_) _).setCell (fun h=>?_) _)
     · have h9:p<w.heap.size:=h;omega
     · have h9:p<w.heap.size:=h;omega
     · have h9:p<w.heap.size+1:=h;omega
     · have h9:p<w.heap.size+1+1:=h;omega
    have htk:iO W9 (.slice ot aD.length ct) T:=by
     rw[←hT]
     refine J8.are (Own.ag bY.tk (hag.sub (fun j _ hj=>?_)))
     rcases hj with h1|h1
     · exact h1.1
     · have:=(bY.tk.row.lt j h1).1;show p<j;omega
    have BZ:jE W9 (.slice BU aG.length cr) R:=by
     rw[←hR]
     refine Ns.are (Own.ag bY.ru (hag.sub (fun j _ hj=>?_)))
     rcases hj with h1|h1
     · exact h1.1
     · have:=(bY.ru.row.lt j h1).1;show p<j;omega
    have xP:w.heap.size+1+1<W9.heap.size:=by rw[bP];simp[World.setCell];omega
    have H9:=Lib.hid (And.intro gB (And.intro htk (And.intro BZ xP)))
    have uf:=Lib.hid bP
    clear gB htk BZ hag bY aZ bP xP
    go_wp2_with fail
    rw[←uf.out]
    clear c0 c1 c2 c3 c4 vo c6 f0 f1 f2 f3 f4 f5 f6 d0 d0' g0 g0' d1 g1 d2 g2
    refine leaves_cons (f:=20) (args:=#[.pointer (some ⟨w.heap.size,0,none⟩),.pointer (some ⟨w.heap.size+1,0,none⟩),.pointer (some ⟨w.heap.size+1+1,0,none⟩)]) (by simp) (by simp[go_sem]) ?_
    refine(zN _ _ _ _).mono ?_
    rintro x u' w'' ⟨rfl,rfl,rfl⟩
    have hbf:=ah (Below.refl W9.heap.size W9) (.cells #[.int .i64 0,.int .i64 0] 65)
    have mE:=H9.out.1.below H9.out.2.2.2 hbf
    have Ca:=H9.out.2.1.moved hbf
    have Cb:=H9.out.2.2.1.moved hbf
    obtain⟨GZ,G5⟩:∃GZ,GZ=W9.alloc (.cells #[.int .i64 0,.int .i64 0] 65):=⟨_,rfl⟩
    rw[←G5] at mE Ca Cb ⊢
    clear G5 hbf
    obtain⟨⟨d0,d0'⟩,g0,g0'⟩:=dV mE.h0
    obtain⟨d1,g1⟩:=aj mE.h1
    obtain⟨d2,g2⟩:=aj mE.h2
    have HR:Cz T R w (.returned (.tuple #[.agg #[.slice ot aD.length ct,.slice BU aG.length cr],.int .i64 0,.int .i64 0])) GZ:=⟨_,_,rfl,Ca,Cb,mE.aV⟩
    simp[Leaves,settle,results,Tryz.results10,go_sem,d0,d0',d1,d2]
    exact HR
  · have he0 : (qk == 0) = false := by simpa using hq0
    have Zk:=aU.out.x.small
    go_wp2_with fail
    refine(bD p k 0 U _ tv rv ti ri (qk,qb,qn) _ aU.out.x HQ.out).mono ?_
    rintro x w7 ⟨rfl,gY⟩
    dsimp only[iZ]
    have H7:=Lib.hid (aU.out.ch rD (Ch.of gY) (aU.out.x.moved gY) (Nat.le_refl _))
    clear gY
    go_wp2_with fail
    rcases hl with⟨t,m,tx,rfl,YK,hre,h5,hm⟩|⟨r,m,k1,rfl,hra,h5,hm⟩|⟨h5,hm⟩
    · refine (NU p k 0 0 U V HU.out.2.1 _ tv rv ti ri _ _ _ _ aD aG lt lr t tx W6 _ H6.out.1 H7.out YK hre h5).mono ?_
      rintro x w8 ⟨rfl,tv',Nt,a,b,n,bY⟩
      have yJ:=Lib.hid (And.intro bY hm)
      have P9:=bY.x.le
      clear bY YK hre h5 hm
      go_wp2_with fail
      go_roundg (U.length-(k+7))
      case measure=>omega
      case rel=>exact⟨k+7,tv',rv,Nt,ri,aD++[(t,a,b)],aG,lt++[n],lr,m,Rr,by omega,yJ.out.1,by rw[Ep.out.1];simp,Ep.out.2,yJ.out.2⟩
    · refine (LB p k 0 0 U V HU.out.2.1 _ tv rv ti ri _ _ _ _ aD aG lt lr r k1 W6 _ H6.out.1 H7.out hra h5).mono ?_
      rintro x w8 ⟨rfl,rv',Nu,a,n,bY⟩
      have yJ:=Lib.hid (And.intro bY hm)
      have P9:=bY.x.le
      have hk1:k<k1:=Tv hra
      clear bY hra h5 hm
      go_wp2_with fail
      go_roundg (U.length-(k1+1))
      case measure=>omega
      case rel=>exact⟨k1+1,tv,rv',ti,Nu,aD,aG++[(r,a)],lt,lr++[n],Tr,m,by omega,yJ.out.1,Ep.out.1,by rw[Ep.out.2];simp,yJ.out.2⟩
    · refine (Qv p k 0 0 U V HU.out.2.1 _ tv rv ti ri _ _ _ _ aD aG lt lr W6 _ H6.out.1 H7.out h5).mono ?_
      rintro x w8 ⟨rfl,bY⟩
      have yJ:=Lib.hid (And.intro bY hm)
      have P9:=bY.x.le
      clear bY h5 hm
      go_wp2_with fail
      go_roundg (U.length-(k+1))
      case measure=>omega
      case rel=>exact⟨k+1,tv,rv,ti,ri,aD,aG,lt,lr,Tr,Rr,by omega,yJ.out.1,Ep.out.1,Ep.out.2,yJ.out.2⟩
end Go.Proofs.YtfkmajjgkdjncaaGreatDoor

set_option maxHeartbeats 2000000
set_option maxRecDepth 1000000
namespace Go.Proofs.YtfkmajjgkdjncaaGreatDoor
open Go.RowKit De Wd
def Tw (w:World) (p q r:Nat) (a b:Int) (x:Exit) (c:Act) (w':World):Prop:=
 x=.normal∧c.defers=[]∧w'.heap[p]? = some (.cells #[.slice none 0 0,.slice none 0 0] 26 (0,0))∧w'.heap[q]? = some (.cells #[.int .i64 a] 3 (0,0))∧w'.heap[r]? = some (.cells #[.int .i64 b] 3 (0,0))∧∀k,k≤p→k≤q→k≤r→k≤w.heap.size→Below k w w'
theorem l6 (p q r:Nat) (a b:Int) (u0 u1 x y:Value) (w:World)
 (hP:w.heap[p]? = some (.cells #[u0,u1] 26 (0,0))) (hQ:w.heap[q]? = some (.cells #[x] 3 (0,0))) (hR:w.heap[r]? = some (.cells #[y] 3 (0,0))) (hpq:p≠q) (hqr:q≠r) (hpr:p≠r) :
 CallsD Tryz.prog 20 #[.pointer (some ⟨p,0,none⟩),.pointer (some ⟨q,0,none⟩),.pointer (some ⟨r,0,none⟩)] (.panicking ({ v:=.iface 65 (.agg #[.int .i64 a,.int .i64 b]),recovered:=false }::[])) w fun e u' w'=>
  e=.returned (.tuple #[])∧u'=.panicking ({ v:=.iface 65 (.agg #[.int .i64 a,.int .i64 b]),recovered:=true }::[]) ∧
  w'.heap[p]? = some (.cells #[.slice none 0 0,.slice none 0 0] 26 (0,0))∧w'.heap[q]? = some (.cells #[.int .i64 a] 3 (0,0))∧w'.heap[r]? = some (.cells #[.int .i64 b] 3 (0,0))∧∀k,k≤p→k≤q→k≤r→k≤w.heap.size→Below k w w':=by
 have ta:∀w,(Instr.typeAssert (.iface 65 (.agg #[.int .i64 a,.int .i64 b])) 20 65 true).run Tryz.prog w=.ok (.tuple #[.agg #[.int .i64 a,.int .i64 b],.bool true]) w:=fun w=>by kernel_rfl
 obtain⟨⟨cP,cP1⟩,fP,fP1⟩:=dV hP
 obtain⟨cQ,fQ⟩:=aj hQ
 obtain⟨cR,fR⟩:=aj hR
 refine callsD_of_wpS Tryz.func20 rfl fun c₀ cs hu=>?_
 simp only[Tryz.ntmps20,List.size_toArray,List.length_cons,List.length_nil,Nat.reduceAdd,Nat.reduceSub,Array.replicate_succ,Array.replicate_zero,List.push_toArray,List.append_toArray,List.nil_append,List.cons_append]
 have hrec : dW (c₀ :: cs) = (.iface 65 (.agg #[.int .i64 a, .int .i64 b]), { c₀ with mode := .panicking ({ v := .iface 65 (.agg #[.int .i64 a, .int .i64 b]), recovered := true } :: []) } :: cs) := by
  simp[dW,recoverD,hu]
 apply wpS_seq
 refine bO rfl rfl ?_
 rw[hrec]
 have HU:=Lib.hid hu
 clear hrec hu
 have HI:=Lib.hid (And.intro hP (And.intro hQ hR))
 have hlt:p<w.heap.size:=lt_of_some hP
 have hlo:q<w.heap.size:=lt_of_some hQ
 have hlf:r<w.heap.size:=lt_of_some hR
 clear hP hQ hR
 go_wp2
 simp only[Exit.thenS]
 refine wpS_of_wp (wp_mono (Q:=Tw w p q r a b) ?_ ?_)
 · go_wp2
   go_region
   obtain⟨hP,hQ,hR⟩:=HI.out
   refine⟨rfl,rfl,?_,?_,?_,?_⟩
   · rw [fE, Below.heap_alloc _ _ _ (by simp [World.setCell]; omega), Below.heap_setCell _ _ _ _ (by simpa using hpr), Below.heap_setCell _ _ _ _ (by simpa using hpq)]
     simp[World.setCell,Array.getElem?_modify,hP]
   · rw [fE, Below.heap_alloc _ _ _ (by simp [World.setCell]; omega), Below.heap_setCell _ _ _ _ (by simpa using hqr)]
     refine set1 (a:=x) ?_ _
     rw[Below.heap_setCell _ _ _ _ (by simpa using fun e=>hpq e.symm),Below.heap_setCell _ _ _ _ (by simpa using fun e=>hpq e.symm)]
     exact hQ
   · rw [fE, Below.heap_alloc _ _ _ (by simp [World.setCell]; omega)]
     refine set1 (a:=y) ?_ _
     rw[Below.heap_setCell _ _ _ _ (by simpa using fun e=>hqr e.symm),Below.heap_setCell _ _ _ _ (by simpa using fun e=>hpr e.symm),Below.heap_setCell _ _ _ _ (by simpa using fun e=>hpr e.symm)]
     exact hR
   · intro k h1 h2 h3 h4
     exact((((((Below.refl k w).setCell h1 _).setCell h1 _).setCell h2 _).setCell h3 _).alloc (by simp[World.setCell];exact h4) _).drew
 · rintro e a w' ⟨rfl, hdf, h1, h2, h3, h4⟩
   refine⟨hdf,_,rfl,.tuple #[],?_,rfl,rfl,h1,h2,h3,h4⟩
   exact results_none rfl _ _ _
def Tz (w:World) (p q r:Nat) (a b:Int) (x:Exit) (c:Act) (w':World):Prop:=
 x=.normal∧c.defers=[]∧w'.heap[p]? = some (.cells #[.int .i64 0,.slice none 0 0,.slice none 0 0] 35 (0,0))∧w'.heap[q]? = some (.cells #[.int .i64 a] 3 (0,0))∧w'.heap[r]? = some (.cells #[.int .i64 b] 3 (0,0))∧∀k,k≤p→k≤q→k≤r→k≤w.heap.size→Below k w w'
theorem yZ (p q r:Nat) (a b:Int) (u0 u1 u2 x y:Value) (w:World)
 (hP:w.heap[p]? = some (.cells #[u0,u1,u2] 35 (0,0))) (hQ:w.heap[q]? = some (.cells #[x] 3 (0,0))) (hR:w.heap[r]? = some (.cells #[y] 3 (0,0))) (hpq:p≠q) (hqr:q≠r) (hpr:p≠r) :
 CallsD Tryz.prog 28 #[.pointer (some ⟨p,0,none⟩),.pointer (some ⟨q,0,none⟩),.pointer (some ⟨r,0,none⟩)] (.panicking ({ v:=.iface 65 (.agg #[.int .i64 a,.int .i64 b]),recovered:=false }::[])) w fun e u' w'=>
  e=.returned (.tuple #[])∧u'=.panicking ({ v:=.iface 65 (.agg #[.int .i64 a,.int .i64 b]),recovered:=true }::[]) ∧
  w'.heap[p]? = some (.cells #[.int .i64 0,.slice none 0 0,.slice none 0 0] 35 (0,0))∧w'.heap[q]? = some (.cells #[.int .i64 a] 3 (0,0))∧w'.heap[r]? = some (.cells #[.int .i64 b] 3 (0,0))∧∀k,k≤p→k≤q→k≤r→k≤w.heap.size→Below k w w':=by
 have ta:∀w,(Instr.typeAssert (.iface 65 (.agg #[.int .i64 a,.int .i64 b])) 20 65 true).run Tryz.prog w=.ok (.tuple #[.agg #[.int .i64 a,.int .i64 b],.bool true]) w:=fun w=>by kernel_rfl
 obtain⟨⟨cP,cP1,cP2⟩,fP,fP1,fP2⟩:=ay hP
 obtain⟨cQ,fQ⟩:=aj hQ
 obtain⟨cR,fR⟩:=aj hR
 refine callsD_of_wpS Tryz.func28 rfl fun c₀ cs hu=>?_
 simp only[Tryz.ntmps28,List.size_toArray,List.length_cons,List.length_nil,Nat.reduceAdd,Nat.reduceSub,Array.replicate_succ,Array.replicate_zero,List.push_toArray,List.append_toArray,List.nil_append,List.cons_append]
 have hrec : dW (c₀ :: cs) = (.iface 65 (.agg #[.int .i64 a, .int .i64 b]), { c₀ with mode := .panicking ({ v := .iface 65 (.agg #[.int .i64 a, .int .i64 b]), recovered := true } :: []) } :: cs) := by
  simp[dW,recoverD,hu]
 apply wpS_seq
 refine bO rfl rfl ?_
 rw[hrec]
 have HU:=Lib.hid hu
 clear hrec hu
 have HI:=Lib.hid (And.intro hP (And.intro hQ hR))
 have hlt:p<w.heap.size:=lt_of_some hP
 have hlo:q<w.heap.size:=lt_of_some hQ
 have hlf:r<w.heap.size:=lt_of_some hR
 clear hP hQ hR
 go_wp2
 simp only[Exit.thenS]
 refine wpS_of_wp (wp_mono (Q:=Tz w p q r a b) ?_ ?_)
 · go_wp2
   go_region
   obtain⟨hP,hQ,hR⟩:=HI.out
   refine⟨rfl,rfl,?_,?_,?_,?_⟩
   · rw [fE, Below.heap_alloc _ _ _ (by simp [World.setCell]; omega), Below.heap_setCell _ _ _ _ (by simpa using hpr), Below.heap_setCell _ _ _ _ (by simpa using hpq)]
     simp[World.setCell,Array.getElem?_modify,hP]
   · rw [fE, Below.heap_alloc _ _ _ (by simp [World.setCell]; omega), Below.heap_setCell _ _ _ _ (by simpa using hqr)]
     refine set1 (a:=x) ?_ _
     rw[Below.heap_setCell _ _ _ _ (by simpa using fun e=>hpq e.symm),Below.heap_setCell _ _ _ _ (by simpa using fun e=>hpq e.symm),Below.heap_setCell _ _ _ _ (by simpa using fun e=>hpq e.symm)]
     exact hQ
   · rw [fE, Below.heap_alloc _ _ _ (by simp [World.setCell]; omega)]
     refine set1 (a:=y) ?_ _
     rw[Below.heap_setCell _ _ _ _ (by simpa using fun e=>hqr e.symm),Below.heap_setCell _ _ _ _ (by simpa using fun e=>hpr e.symm),Below.heap_setCell _ _ _ _ (by simpa using fun e=>hpr e.symm),Below.heap_setCell _ _ _ _ (by simpa using fun e=>hpr e.symm)]
     exact hR
   · intro k h1 h2 h3 h4
     exact(((((((Below.refl k w).setCell h1 _).setCell h1 _).setCell h1 _).setCell h2 _).setCell h3 _).alloc (by simp[World.setCell];exact h4) _).drew
 · rintro e a w' ⟨rfl, hdf, h1, h2, h3, h4⟩
   refine⟨hdf,_,rfl,.tuple #[],?_,rfl,rfl,h1,h2,h3,h4⟩
   exact results_none rfl _ _ _
end Go.Proofs.YtfkmajjgkdjncaaGreatDoor

set_option maxHeartbeats 2000000
set_option maxRecDepth 1000000
namespace Go.Proofs.YtfkmajjgkdjncaaGreatDoor
open Go.RowKit De Wd
theorem XI.XK {w:World} {p k d:Nat} {s:ByteArray} {L:Its} {v:Value} (h:XI w p s L k d v) (n:Nat):XI (w.drewN n) p s L k d v:=
 have hb:Below w.heap.size w (w.drewN n):=⟨rfl,rfl,rfl,Nat.le_refl _,fun _ _=>rfl⟩
 ⟨(hb.block _ h.lt).trans h.hh,h.row.below hb,h.far,h.le,h.small⟩
theorem Jm (s:ByteArray) (e:RE) (w:World) (hs:s.size≤100000) (m:Nat) (hm:m<(all 0 (sb s)).length)
 (hat:∀p v w,XI w p s (all 0 (sb s)) 0 0 v→Calls Tryz.prog 30 #[.pointer (some ⟨p,0,none⟩)] w fun x w'=>jv w w' e x∧Ch w w' p∧XI w' p s (all 0 (sb s)) m 0 v) :
 Calls Tryz.prog 14 #[.string s] w fun x w'=>x=.returned (.tuple #[.agg #[.int .i64 0,.slice none 0 0,.slice none 0 0],.int .i64 3,.int .i64 (aA (all 0 (sb s)) s.size m)])∧Below w.heap.size w w':=by
 have ng:∀(fn:Fn) (first cap:Array Value) (w:World),(Instr.makeFunc fn first cap).run Tryz.prog w=.ok (.func fn first cap) w:=fun _ _ _ _=>rfl
 have pz:=fun w=>Lib.run_convert_string_bytes (P:=Tryz.prog) w 9 84 5 s Tryz.underlying9 Tryz.underlying84 Tryz.underlying5
 obtain⟨W3,hW3⟩:∃W3,W3=(((w.alloc (.cells #[.int .i64 0,.slice none 0 0,.slice none 0 0] 35)).alloc (.cells #[.int .i64 0] 3)).alloc (.cells #[.int .i64 0] 3)):=⟨_,rfl⟩
 obtain⟨g0,g1,g2,g3,g4⟩:=lD w _ _ _ W3 hW3
 have hcr:=sw W3 s (by omega)
 rw[g3] at hcr
 have hall:=sD (sb s) (.slice (some ⟨w.heap.size+1+1+1,0,none⟩) s.size (grownCap W3 s.size 0 5)) (Lib.bytesWorld W3 5 s) hcr (oJ s) (by rw[bg];omega)
 clear hcr
 have hlen:=ql 0 (sb s)
 rw[bg] at hlen
 obtain⟨L,hL⟩:∃L,L=all 0 (sb s):=⟨_,rfl⟩
 rw[←hL] at hall hlen hat hm ⊢
 have HA:=Lib.hid hall
 have HT:=Lib.hid hat
 have HG:=Lib.hid (And.intro hW3 (And.intro g0 (And.intro g1 (And.intro g2 (And.intro g3 g4)))))
 clear hW3 g0 g1 g2 g3 g4 hall hL hat
 go_enter_defers Tryz.func14,Tryz.ntmps14
 go_wp2_with fail
 obtain⟨hW3,g0,g1,g2,g3,g4⟩:=HG.out
 rw[←hW3]
 refine HA.out.mono ?_
 rintro x w4 ⟨uv,rfl,bN,hb4⟩
 have hbW:Below W3.heap.size W3 w4:=ak (lI W3 _ s) hb4
 have bQ:iF w w4 (.int .i64 0) (.slice none 0 0) (.slice none 0 0):=iF.below ⟨g0,g1,g2,g4⟩ (by omega) hbW
 have lF:=hbW.size
 obtain⟨p,hp⟩:∃p,p=w4.heap.size:=⟨_,rfl⟩
 obtain⟨ou,cu,rfl⟩:=au bN
 have hlow : ∀ b off cap, Value.slice ou L.length cu = .slice (some ⟨b, off, none⟩) L.length cap → b < p ∧ w.heap.size + 1 + 1 < b := fun b off cap e => by
  simp only[Value.slice.injEq,true_and] at e
  obtain⟨rfl,rfl⟩:=e
  have h1:=(bN.lt b rfl).2
  have h2:=(bN.lt b rfl).1
  rw[Lib.bytesWorld_size] at h2
  omega
 have hxi:XI (w4.alloc (.cells #[.string s,.slice ou L.length cu,.int .i64 ((0:Nat):Int),.int .i64 ((0:Nat):Int)] 86)) p s L 0 0 (.slice ou L.length cu):=
  ⟨by rw[hp];exact heap_alloc_new _ _,(Row.owned bN).below (ah (Below.refl _ _) _),fun b off cap e=>by have:=hlow b off cap e;omega,Nat.zero_le _,by omega⟩
 have dM:=bQ.below (by omega) (ah (Below.refl _ _) (.cells #[.string s,.slice ou L.length cu,.int .i64 ((0:Nat):Int),.int .i64 ((0:Nat):Int)] 86))
 obtain⟨W5,bT⟩:∃W5,W5=w4.alloc (.cells #[.string s,.slice ou L.length cu,.int .i64 ((0:Nat):Int),.int .i64 ((0:Nat):Int)] 86):=⟨_,rfl⟩
 rw[←bT] at hxi dM
 have gu:w.heap.size+1+1<p:=by omega
 have hs5:w.heap.size+1+1<W5.heap.size:=by rw[bT];simp;omega
 have H5:=Lib.hid (And.intro hxi (And.intro dM (And.intro bT hp)))
 have og:=Lib.hid hlow
 clear hxi dM bN hb4 hbW bQ g0 g1 g2 g3 g4 hW3 pz HG hp lF bT hlow
 go_wp2_with fail
 rw[←H5.out.2.2.2]
 have bT:=H5.out.2.2.1
 simp only[Int.natCast_zero,Int.ofNat_zero] at bT
 rw[←bT]
 clear bT
 refine(HT.out p _ _ H5.out.1).mono ?_
 rintro x w6 ⟨⟨sv,lv,rfl,hkp⟩,hch,hx6⟩
 obtain⟨⟨o1,q1,rfl⟩,⟨o2,q2,rfl⟩⟩:=hkp.here.form
 have dZ:=H5.out.2.1.ch hs5 gu hch
 have hs6:W5.heap.size≤w6.heap.size:=hch.size
 obtain⟨X,hX⟩:∃X,X=((w6.setCell ⟨w.heap.size,0,none⟩ (.int .i64 e.kind)).setCell ⟨w.heap.size,1,none⟩ (.slice o1 e.set.length q1)).setCell ⟨w.heap.size,2,none⟩ (.slice o2 e.parts.length q2):=⟨_,rfl⟩
 have hpe:p≠w.heap.size:=by omega
 have hfr:∀b off cap,Value.slice ou L.length cu=.slice (some ⟨b,off,none⟩) L.length cap→b≠w.heap.size:=fun b off cap e0=>by have:=og.out b off cap e0;omega
 have NY:iF w X (.int .i64 e.kind) (.slice o1 e.set.length q1) (.slice o2 e.parts.length q2):=by rw[hX];exact dZ.set
 have NZ:XI X p s L m 0 (.slice ou L.length cu):=by rw[hX];exact((hx6.setOther hpe hfr).setOther hpe hfr).setOther hpe hfr
 have hkX : KP (fun k => W5.heap.size ≤ k) X (fun w2 => bI w2 e (.slice o1 e.set.length q1) (.slice o2 e.parts.length q2)) := by
  rw[hX]
  refine hkp.to ((((Ag.refl _ _).setCell (fun h=>?_) _).setCell (fun h=>?_) _).setCell (fun h=>?_) _)
  all_goals (have h9:W5.heap.size≤w.heap.size:=h;omega)
 have YL:W5.heap.size≤X.heap.size:=by rw[hX];simpa [World.setCell] using hs6
 obtain⟨⟨d0,d1,d2⟩,f0,f1,f2⟩:=ay dZ.h0
 have HX:=Lib.hid (And.intro NY (And.intro NZ (And.intro hkX hX)))
 clear NY NZ hkX hX dZ hx6 hkp hch hfr
 go_wp2_with fail
 rw[←HX.out.2.2.2]
 clear d0 d1 d2 f0 f1 f2
 obtain⟨⟨c0,c1,c2,c3⟩,f0,f1,f2,f3⟩:=aJ HX.out.2.1.hh
 have hl0:(0:Int)≤(m:Int):=by omega
 have e1:decide ((m:Int)<(L.length:Int))=true:=by simp;omega
 have e2:decide (m<L.length)=true:=by simp;omega
 go_quiet (fail)
 clear c0 c1 c2 c3 f0 f1 f2 f3
 have zR:=HX.out.1.ch (p:=p) (by omega) gu (Ch.drewN p nq)
 have hx7:=HX.out.2.1.XK nq
 generalize X.drewN nq=Y at zR hx7 ⊢
 have HY:=Lib.hid (And.intro zR hx7)
 clear zR hx7
 go_wp2_with fail
 refine(vZ p m 0 s L _ Y HY.out.2).mono ?_
 rintro x w8 ⟨rfl,e9⟩
 subst e9
 go_wp2_with fail
 have aZ:=HY.out.1
 refine leaves_cons (f:=28) (args:=#[.pointer (some ⟨w.heap.size,0,none⟩),.pointer (some ⟨w.heap.size+1,0,none⟩),.pointer (some ⟨w.heap.size+1+1,0,none⟩)]) (by simp) (by simp[go_sem]) ?_
 refine(yZ _ _ _ 3 (aA L s.size m) _ _ _ _ _ _ aZ.h0 aZ.h1 aZ.h2 (by omega) (by omega) (by omega)).mono ?_
 rintro x u' w9 ⟨rfl,rfl,K0,K1,K2,hbel⟩
 have hz:=lt_of_some aZ.h2
 have HB:=aZ.aV.trans (hbel _ (Nat.le_refl _) (by omega) (by omega) (by omega))
 obtain⟨⟨d0,d0',Qw⟩,g0,g0',ZF⟩:=ay K0
 obtain⟨d1,g1⟩:=aj K1
 obtain⟨d2,g2⟩:=aj K2
 simp[Leaves,settle,results,Tryz.results14,go_sem,d0,d0',Qw,d1,d2]
 exact HB
end Go.Proofs.YtfkmajjgkdjncaaGreatDoor

set_option maxHeartbeats 2000000
set_option maxRecDepth 1000000
namespace Go.Proofs.YtfkmajjgkdjncaaGreatDoor
open Go.RowKit De Wd
def oM (c:Int) (z:Nat) (w:World) (x:Ending) (w':World):Prop:=
 x=.returned (.tuple #[.agg #[.int .i64 0,.slice none 0 0,.slice none 0 0],.int .i64 c,.int .i64 z])∧Below w.heap.size w w'
theorem LK (s:ByteArray) (c:Int) (z:Nat) (w:World) (hs:s.size≤100000)
 (hat:∀p v w,XI w p s (all 0 (sb s)) 0 0 v→Calls Tryz.prog 30 #[.pointer (some ⟨p,0,none⟩)] w fun x w'=>x=dL c z∧Ch w w' p) :
 Calls Tryz.prog 14 #[.string s] w (oM c z w):=by
 have ng:∀(fn:Fn) (first cap:Array Value) (w:World),(Instr.makeFunc fn first cap).run Tryz.prog w=.ok (.func fn first cap) w:=fun _ _ _ _=>rfl
 have pz:=fun w=>Lib.run_convert_string_bytes (P:=Tryz.prog) w 9 84 5 s Tryz.underlying9 Tryz.underlying84 Tryz.underlying5
 obtain⟨W3,hW3⟩:∃W3,W3=(((w.alloc (.cells #[.int .i64 0,.slice none 0 0,.slice none 0 0] 35)).alloc (.cells #[.int .i64 0] 3)).alloc (.cells #[.int .i64 0] 3)):=⟨_,rfl⟩
 obtain⟨g0,g1,g2,g3,g4⟩:=lD w _ _ _ W3 hW3
 have hcr:=sw W3 s (by omega)
 rw[g3] at hcr
 have hall:=sD (sb s) (.slice (some ⟨w.heap.size+1+1+1,0,none⟩) s.size (grownCap W3 s.size 0 5)) (Lib.bytesWorld W3 5 s) hcr (oJ s) (by rw[bg];omega)
 clear hcr
 have hlen:=ql 0 (sb s)
 rw[bg] at hlen
 obtain⟨L,hL⟩:∃L,L=all 0 (sb s):=⟨_,rfl⟩
 rw[←hL] at hall hlen hat
 have HA:=Lib.hid hall
 have HT:=Lib.hid hat
 have HG:=Lib.hid (And.intro hW3 (And.intro g0 (And.intro g1 (And.intro g2 (And.intro g3 g4)))))
 clear hW3 g0 g1 g2 g3 g4 hall hL hat
 go_enter_defers Tryz.func14,Tryz.ntmps14
 go_wp2_with fail
 obtain⟨hW3,g0,g1,g2,g3,g4⟩:=HG.out
 rw[←hW3]
 refine HA.out.mono ?_
 rintro x w4 ⟨uv,rfl,bN,hb4⟩
 have hbW:Below W3.heap.size W3 w4:=ak (lI W3 _ s) hb4
 have bQ:iF w w4 (.int .i64 0) (.slice none 0 0) (.slice none 0 0):=iF.below ⟨g0,g1,g2,g4⟩ (by omega) hbW
 have lF:=hbW.size
 obtain⟨p,hp⟩:∃p,p=w4.heap.size:=⟨_,rfl⟩
 obtain⟨ou,cu,rfl⟩:=au bN
 have hlow : ∀ b off cap, Value.slice ou L.length cu = .slice (some ⟨b, off, none⟩) L.length cap → b < p ∧ w.heap.size + 1 + 1 < b := fun b off cap e => by
  simp only[Value.slice.injEq,true_and] at e
  obtain⟨rfl,rfl⟩:=e
  have h1:=(bN.lt b rfl).2
  have h2:=(bN.lt b rfl).1
  rw[Lib.bytesWorld_size] at h2
  omega
 have hxi:XI (w4.alloc (.cells #[.string s,.slice ou L.length cu,.int .i64 ((0:Nat):Int),.int .i64 ((0:Nat):Int)] 86)) p s L 0 0 (.slice ou L.length cu):=
  ⟨by rw[hp];exact heap_alloc_new _ _,(Row.owned bN).below (ah (Below.refl _ _) _),fun b off cap e=>by have:=hlow b off cap e;omega,Nat.zero_le _,by omega⟩
 have dM:=bQ.below (by omega) (ah (Below.refl _ _) (.cells #[.string s,.slice ou L.length cu,.int .i64 ((0:Nat):Int),.int .i64 ((0:Nat):Int)] 86))
 obtain⟨W5,bT⟩:∃W5,W5=w4.alloc (.cells #[.string s,.slice ou L.length cu,.int .i64 ((0:Nat):Int),.int .i64 ((0:Nat):Int)] 86):=⟨_,rfl⟩
 rw[←bT] at hxi dM
 have gu:w.heap.size+1+1<p:=by omega
 have hs5:w.heap.size+1+1<W5.heap.size:=by rw[bT];simp;omega
 have H5:=Lib.hid (And.intro hxi (And.intro dM (And.intro bT hp)))
 have og:=Lib.hid hlow
 clear hxi dM bN hb4 hbW bQ g0 g1 g2 g3 g4 hW3 pz HG hp lF bT hlow
 go_wp2_with fail
 rw[←H5.out.2.2.2]
 have bT:=H5.out.2.2.1
 simp only[Int.natCast_zero,Int.ofNat_zero] at bT
 rw[←bT]
 clear bT
 refine(HT.out p _ _ H5.out.1).mono ?_
 rintro x w6 ⟨rfl,hch⟩
 have HH:=Lib.hid (H5.out.2.1.ch hs5 gu hch)
 clear hch
 go_wp2_with fail
 have aZ:=HH.out
 refine leaves_cons (f:=28) (args:=#[.pointer (some ⟨w.heap.size,0,none⟩),.pointer (some ⟨w.heap.size+1,0,none⟩),.pointer (some ⟨w.heap.size+1+1,0,none⟩)]) (by simp) (by simp[go_sem]) ?_
 refine(yZ _ _ _ c z _ _ _ _ _ _ aZ.h0 aZ.h1 aZ.h2 (by omega) (by omega) (by omega)).mono ?_
 rintro x u' w9 ⟨rfl,rfl,K0,K1,K2,hbel⟩
 have hz:=lt_of_some aZ.h2
 have HB:=aZ.aV.trans (hbel _ (Nat.le_refl _) (by omega) (by omega) (by omega))
 obtain⟨⟨d0,d0',Qw⟩,g0,g0',ZF⟩:=ay K0
 obtain⟨d1,g1⟩:=aj K1
 obtain⟨d2,g2⟩:=aj K2
 simp[Leaves,settle,results,Tryz.results14,go_sem,d0,d0',Qw,d1,d2]
 exact⟨rfl,HB⟩
end Go.Proofs.YtfkmajjgkdjncaaGreatDoor

set_option maxHeartbeats 4000000
set_option maxRecDepth 100000
namespace Go.Proofs.YtfkmajjgkdjncaaGreatDoor
open Go.RowKit De Wd
structure XL (V:Pm.Ws) (U:List Uw) (k:Nat) (nm tx:ByteArray) (cls:Int) (n5:Nat):Prop where
 w1:V[k+1]? = some (1,sb nm)
 w2:V[k+2]? = some (1,sb ⟨#[105,110,116]⟩)
 w3:V[k+3]? = some (2,sb (wM cls))
 w4:Pm.sg V (k+4) 61
 u5:U[k+5]? = some (4,tx,n5)
 nm:cK nm=true
 cl:0≤cls∧cls≤31
theorem LJ (p k k0 d0:Nat) (U:List Uw) (V:Pm.Ws) (hV:iq V U) (wv tv rv ti ri:Value) (dz dA dB dD:Value) (aD:List (TK×Value×Value)) (aG:List (RU×Value)) (lt lr:List Int) (nm tx:ByteArray) (cls c:Int) (z n5:Nat) (w0 w:World) (h0:PI w0 p U k0 d0 wv dz dA dB dD) (aC:LI w0 w p U (k+1) wv tv rv ti ri aD aG lt lr) (hT:XL V U k nm tx cls n5) (hre:∀w,Calls Tryz.prog 14 #[.string tx] w (oM c z w)) (hc0:c≠0) (hzn:n5+1+z≤1000000) :
 Calls Tryz.prog 56 #[.pointer (some ⟨p,0,none⟩)] w fun x w'=>x=dL c ((n5+1+z:Nat):Int)∧Ch w w' p:=by
 have h:=aC.x
 have dw:=h.lt
 have hp0:=h0.lt
 have sJ:=aC.c.size
 have Kc:=Lib.hid (au aC.tk.row)
 have aU:=Lib.hid aC
 have HX0:=Lib.hid h0
 have HX:=Lib.hid h
 have gK:=Lib.hid hT
 obtain⟨ir,uX,hr1,hr2,hr3⟩:=yL
 have oN:=Lib.hid hre
 have e5:(c == 0)=false:=by simpa using hc0
 have e6:(c != 0)=true:=by simpa using hc0
 have EQ:=Lib.hid (show(n5:Int)+1+(z:Int)=((n5+1+z:Nat):Int) by omega)
 have hn0:(0:Int)≤(n5:Int):=by omega
 have hn9:(n5:Int)≤1000000:=by omega
 have hz0:(0:Int)≤(z:Int):=by omega
 have xP:(z:Int)≤1000000:=by omega
 clear aC h0 h hT hre
 go_enter Tryz.func56,Tryz.ntmps56
 go_wp2_with fail
 refine(uO p (k+1) 0 U V hV wv tv rv ti ri nm _ HX.out gK.out.w1 gK.out.nm).mono ?_
 rintro x w1 ⟨rfl,hc1,hx1⟩
 obtain⟨tb,htb⟩:∃tb,tb=w1.heap.size:=⟨_,rfl⟩
 have hs1:=hc1.size
 have hwt:w.heap.size≤tb:=by omega
 have htp:tb≠p:=by omega
 obtain⟨W1,hW1⟩:∃W1,W1=w1.alloc (.cells #[.string nm,.int .i64 0,.int .i64 0,.int .i64 0,.slice none 0 0,.slice none 0 0] 54):=⟨_,rfl⟩
 have hti:TI w W1 p tb U (k+2) wv tv rv ti ri (.string nm) (.int .i64 0) (.int .i64 0) (.int .i64 0) (.slice none 0 0) (.slice none 0 0):=by
  have hb:=ah (Below.refl w1.heap.size w1) (.cells #[.string nm,.int .i64 0,.int .i64 0,.int .i64 0,.slice none 0 0,.slice none 0 0] 54)
  rw[hW1]
  exact⟨hx1.moved hb,hc1.trans (Ch.of hb),by rw[htb];exact heap_alloc_new w1 _⟩
 have H1:=Lib.hid hti
 have HW1:=Lib.hid hW1
 have ND:=Lib.hid htb
 clear hti hW1 htb hc1 hx1
 go_wp2_with (with_reducible rw[←HW1.out])
 simp only[←ND.out]
 obtain⟨q2,hq2⟩:=hV.at H1.out.x.le
 have bG:=iV hV hq2 (kk:=1) (by decide) ⟨#[99,97,108,108]⟩
 rw[decide_eq_false (fun e=>by rw[gK.out.w2] at e;revert e;decide)] at bG
 have gM:=Lib.hid hq2
 have HT2:=Lib.hid bG
 clear hq2 bG
 refine(aH 1 ⟨#[99,97,108,108]⟩ _).mono ?_
 rintro x lQ ⟨b12,iQ,rfl,hbx,hbt⟩
 have aF:=Lib.hid (And.intro (H1.out.x.moved hbt) (And.intro hbx hbt))
 clear hbx hbt
 go_wp2_with fail
 refine(bV p (k+2) 0 U wv tv rv ti ri 1 ⟨#[99,97,108,108]⟩ b12 iQ q2 _ (by decide) aF.out.1 gM.out aF.out.2.1 ?_ ?_).mono ?_
 · intro e;have h1:=aF.out.1.hh;rw[←e,aF.out.2.1.h1] at h1;cases h1
 · intro e;have h1:=aF.out.1.hh;rw[←e,aF.out.2.1.h2] at h1;cases h1
 rintro x w2 ⟨rfl,hc2,hx2⟩
 replace hc2:=(Ch.of (p:=p) aF.out.2.2).trans hc2
 rw[HT2.out] at hx2 ⊢
 rw[if_neg (by decide)] at hx2
 have hi2:=H1.out.to hc2 hx2 htp
 clear hx2 hc2
 have H2:=Lib.hid hi2
 clear hi2
 go_wp2_with fail
 obtain⟨q3,hq3⟩:=hV.at H2.out.x.le
 have gJ:=iV hV hq3 (kk:=1) (by decide) ⟨#[114,101,116]⟩
 rw[decide_eq_false (fun e=>by rw[gK.out.w2] at e;revert e;decide)] at gJ
 have jJ:=Lib.hid hq3
 have HT3:=Lib.hid gJ
 clear hq3 gJ
 refine(aH 1 ⟨#[114,101,116]⟩ _).mono ?_
 rintro x vg ⟨b13,kD,rfl,hbx,hbt⟩
 have bL:=Lib.hid (And.intro (H2.out.x.moved hbt) (And.intro hbx hbt))
 clear hbx hbt
 go_wp2_with fail
 refine(bV p (k+2) 0 U wv tv rv ti ri 1 ⟨#[114,101,116]⟩ b13 kD q3 _ (by decide) bL.out.1 jJ.out bL.out.2.1 ?_ ?_).mono ?_
 · intro e;have h1:=bL.out.1.hh;rw[←e,bL.out.2.1.h1] at h1;cases h1
 · intro e;have h1:=bL.out.1.hh;rw[←e,bL.out.2.1.h2] at h1;cases h1
 rintro x w3 ⟨rfl,hc3,hx3⟩
 replace hc3:=(Ch.of (p:=p) bL.out.2.2).trans hc3
 rw[HT3.out] at hx3 ⊢
 rw[if_neg (by decide)] at hx3
 have hi3:=H2.out.to hc3 hx3 htp
 clear hx3 hc3
 have H3:=Lib.hid hi3
 obtain⟨q4,hq4⟩:=hV.at hi3.x.le
 have N7:tst 1 ⟨#[105,110,116]⟩ q4=true:=by rw[iV hV hq4 (by decide)];exact decide_eq_true gK.out.w2
 have NG:=Lib.hid hq4
 have Xh:=Lib.hid N7
 clear hi3 hq4 N7
 go_wp2_with fail
 refine(aH 1 ⟨#[105,110,116]⟩ _).mono ?_
 rintro x Rz ⟨b14,Ci,rfl,hbx,hbt⟩
 have gI:=Lib.hid (And.intro (H3.out.x.moved hbt) (And.intro hbx hbt))
 clear hbx hbt
 go_wp2_with fail
 refine(kL p (k+2) 0 U wv tv rv ti ri 1 ⟨#[105,110,116]⟩ b14 Ci q4 _ (by decide) gI.out.1 NG.out gI.out.2.1 ?_ ?_ Xh.out).mono ?_
 · intro e;have h1:=gI.out.1.hh;rw[←e,gI.out.2.1.h1] at h1;cases h1
 · intro e;have h1:=gI.out.1.hh;rw[←e,gI.out.2.1.h2] at h1;cases h1
 rintro x w4 ⟨rfl,hc4,hx4⟩
 replace hc4:=(Ch.of (p:=p) gI.out.2.2).trans hc4
 have H4:=Lib.hid (H3.out.to hc4 hx4 htp)
 clear hc4 hx4
 go_wp2_with fail
 refine(pY p (k+3) 0 U V hV wv tv rv ti ri cls _ H4.out.x gK.out.w3 gK.out.cl).mono ?_
 rintro x w5 ⟨rfl,aK,hx5⟩
 have hi5:=H4.out.to aK hx5 htp
 obtain⟨⟨d0,d1,d2,d3,d4,d5⟩,g0,g1,g2,g3,g4,g5⟩:=dH hi5.ht
 obtain⟨W5,bT⟩:∃W5,W5=w5.setCell ⟨tb,2,none⟩ (.int .i64 cls):=⟨_,rfl⟩
 have jh:=hi5.set2 HX.out (.int .i64 cls) hwt
 rw[←bT] at jh
 have H5:=Lib.hid jh
 have Cj:=Lib.hid bT
 obtain⟨q6,eB⟩:=hV.at jh.x.le
 have y7:tst 3 ⟨#[61]⟩ q6=true:=by rw[cZ hV eB 61];exact decide_eq_true gK.out.w4
 have nN:=Lib.hid eB
 have Iw:=Lib.hid y7
 clear hi5 jh aK hx5 bT eB y7
 go_wp2_with (with_reducible rw[←Cj.out])
 clear d0 d1 d2 d3 d4 d5 g0 g1 g2 g3 g4 g5
 refine(aH 3 ⟨#[61]⟩ _).mono ?_
 rintro x RA ⟨b16,Ck,rfl,hbx,hbt⟩
 have gN:=Lib.hid (And.intro (H5.out.x.moved hbt) (And.intro hbx hbt))
 clear hbx hbt
 go_wp2_with fail
 refine(kL p (k+4) 0 U wv tv rv ti ri 3 ⟨#[61]⟩ b16 Ck q6 _ (by decide) gN.out.1 nN.out gN.out.2.1 ?_ ?_ Iw.out).mono ?_
 · intro e;have h1:=gN.out.1.hh;rw[←e,gN.out.2.1.h1] at h1;cases h1
 · intro e;have h1:=gN.out.1.hh;rw[←e,gN.out.2.1.h2] at h1;cases h1
 rintro x w6 ⟨rfl,hc6,hx6⟩
 replace hc6:=(Ch.of (p:=p) gN.out.2.2).trans hc6
 have fU:=H5.out.to hc6 hx6 htp
 have H6:=Lib.hid fU
 have zP:=Lib.hid gK.out.u5
 have Iy:=Lib.hid (show iU 4 ((4:Int),tx,n5)=true from rfl)
 clear fU hc6 hx6
 go_wp2_with fail
 refine(dO 4 _).mono ?_
 rintro x RB ⟨b17,rfl,hbx,hbt⟩
 have oI:=Lib.hid (And.intro (H6.out.x.moved hbt) (And.intro hbx hbt))
 clear hbx hbt
 go_wp2_with fail
 refine(rz p (k+5) 0 U wv tv rv ti ri 4 b17 ((4:Int),tx,n5) _ (by decide) oI.out.1 zP.out oI.out.2.1 Iy.out).mono ?_
 rintro x w7 ⟨rfl,eF,hx7⟩
 replace eF:=(Ch.of (p:=p) oI.out.2.2).trans eF
 have hbel:=ah (Below.refl w7.heap.size w7) (.cells #[.int .i64 4,.string tx,.int .i64 n5] 72)
 have lY:=(H6.out.to eF hx7 htp).to (Ch.of hbel) ((H6.out.to eF hx7 htp).x.moved hbel) htp
 have hge:=heap_alloc_new w7 (.cells #[.int .i64 4,.string tx,.int .i64 n5] 72)
 obtain⟨W7,lH⟩:∃W7,W7=w7.alloc (.cells #[.int .i64 4,.string tx,.int .i64 n5] 72):=⟨_,rfl⟩
 rw[←lH] at lY hge
 obtain⟨⟨u0,u1,u2⟩,m0,m1,m2⟩:=ay hge
 have Wy:=Lib.hid hge
 have Ll:tb<W7.heap.size:=lt_of_some lY.ht
 have H7:=Lib.hid lY
 have Cm:=Lib.hid lH
 clear hbel lY hge eF hx7 lH
 go_wp2_with (with_reducible rw[←Cm.out])
 refine(oN.out _).mono ?_
 rintro x w8 ⟨rfl,gF⟩
 have nO:=H7.out.to (Ch.of gF) (H7.out.x.moved gF) htp
 have HF:=Lib.hid nO.c
 have Ho:=aB gF Wy.out
 obtain⟨⟨v0,v1,v2⟩,y0,y1,y2⟩:=ay Ho
 have Zq:w7.heap.size<w8.heap.size:=lt_of_some Ho
 have Zr:¬w7.heap.size=w8.heap.size:=by omega
 clear nO gF Ho u0 u1 u2 m0 m1 m2
 go_wp2_with fail
 refine⟨rfl,?_,HF.out.trans (Ch.of (ah (Below.refl _ _) _))⟩
 rw[←EQ.out]
end Go.Proofs.YtfkmajjgkdjncaaGreatDoor
