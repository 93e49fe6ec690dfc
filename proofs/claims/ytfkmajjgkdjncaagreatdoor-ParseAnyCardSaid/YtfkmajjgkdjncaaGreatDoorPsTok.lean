/- Merged. -/
import Derived.Test.YtfkmajjgkdjncaaGreatDoorPaCls
import Derived.Test.YtfkmajjgkdjncaaGreatDoorPsClass
import Derived.Test.YtfkmajjgkdjncaaGreatDoorPmBack
import Derived.Test.YtfkmajjgkdjncaaGreatDoorGLim
import Derived.Test.YtfkmajjgkdjncaaGreatDoorPsLi
set_option linter.unusedVariables false
set_option linter.unusedSimpArgs false
set_option maxHeartbeats 1000000
set_option maxRecDepth 1000000
namespace Go.Proofs.YtfkmajjgkdjncaaGreatDoor
open Go.RowKit De Wd
theorem Jg (p q r:Nat) (w:World) :
 CallsD Tryz.prog 28 #[.pointer (some ⟨p,0,none⟩),.pointer (some ⟨q,0,none⟩),.pointer (some ⟨r,0,none⟩)] .returning w fun e u' w'=>
  e=.returned (.tuple #[])∧u'=.returning∧w'=w.alloc (.cells #[.int .i64 0,.int .i64 0] 65):=by
 have ta:∀w,(Instr.typeAssert .nilIface 20 65 true).run Tryz.prog w=.ok (.tuple #[.agg #[.int .i64 0,.int .i64 0],.bool false]) w:=fun w=>by kernel_rfl
 refine callsD_of_wpS Tryz.func28 rfl fun c₀ cs hu=>?_
 simp only[Tryz.ntmps28,List.size_toArray,List.length_cons,List.length_nil,Nat.reduceAdd,Nat.reduceSub,Array.replicate_succ,Array.replicate_zero,List.push_toArray,List.append_toArray,List.nil_append,List.cons_append]
 have hrec:dW (c₀::cs)=(.nilIface,c₀::cs):=by
  simp[dW,recoverD,hu]
 apply wpS_seq
 refine bO rfl rfl ?_
 rw[hrec]
 have HU:=Lib.hid hu
 clear hrec hu
 go_wp2
 simp only[Exit.thenS]
 refine wpS_of_wp (wp_mono (Q:=fun x a w'=>x=.normal∧a.defers=[]∧w'=w.alloc (.cells #[.int .i64 0,.int .i64 0] 65)) ?_ ?_)
 · go_wp2
 · rintro e a w' ⟨rfl, hdf, rfl⟩
   exact⟨hdf,.returning,by have:=HU.out;cases c₀;simp_all,.tuple #[],results_none rfl _ _ _,rfl,rfl,rfl⟩
end Go.Proofs.YtfkmajjgkdjncaaGreatDoor

set_option maxHeartbeats 2000000
set_option maxRecDepth 1000000
namespace Go.Proofs.YtfkmajjgkdjncaaGreatDoor
open Go.RowKit De Wd
theorem XI.setOther {w:World} {p E i k d:Nat} {s:ByteArray} {L:Its} {v x:Value} (h:XI w p s L k d v) (hE:p≠E) (hb:∀b off cap,v=.slice (some ⟨b,off,none⟩) L.length cap→b≠E):XI (w.setCell ⟨E,i,none⟩ x) p s L k d v:=by
 refine⟨?_,?_,h.far,h.le,h.small⟩
 · rw[Below.heap_setCell _ _ _ _ (by simpa using hE)];exact h.hh
 · obtain ⟨o, cap, rfl, h1, h2, h3⟩ := h.row
   refine⟨o,cap,rfl,h1,h2,?_⟩
   rcases h3 with h3|⟨b,off,rfl,hb2,hc⟩
   · exact .inl h3
   · refine .inr ⟨b, off, rfl, by simpa [World.setCell] using hb2, fun j u hu => ?_⟩
     rw[←hc j u hu]
     unfold World.cell?
     rw[Below.heap_setCell _ _ _ _ (by simpa using hb b off cap rfl)]
structure iF (w w':World) (a b c:Value):Prop where
 h0:w'.heap[w.heap.size]? = some (.cells #[a,b,c] 35 (0,0))
 h1:w'.heap[w.heap.size+1]? = some (.cells #[.int .i64 0] 3 (0,0))
 h2:w'.heap[w.heap.size+1+1]? = some (.cells #[.int .i64 0] 3 (0,0))
 aV:Below w.heap.size w w'
theorem iF.below {w a b:World} {x y z:Value} (h:iF w a x y z) (hs:w.heap.size+1+1<a.heap.size) (hb:Below a.heap.size a b):iF w b x y z:=
 ⟨by rw[hb.block _ (by omega)];exact h.h0,by rw[hb.block _ (by omega)];exact h.h1,by rw[hb.block _ (by omega)];exact h.h2,h.aV.trans (hb.mono h.aV.size)⟩
theorem iF.ch {w a b:World} {x y z:Value} {p:Nat} (h:iF w a x y z) (hs:w.heap.size+1+1<a.heap.size) (hp:w.heap.size+1+1<p) (hb:Ch a b p):iF w b x y z:=
 ⟨by rw[hb.block _ (by omega) (by omega)];exact h.h0,by rw[hb.block _ (by omega) (by omega)];exact h.h1,by rw[hb.block _ (by omega) (by omega)];exact h.h2,h.aV.trans ⟨hb.os,hb.tape,hb.output,hb.size,fun k hk=>hb.block k (by have:=h.aV.size;omega) (by omega)⟩⟩
theorem iF.set {w a:World} {x y z x' y' z':Value} (h:iF w a x y z):iF w (((a.setCell ⟨w.heap.size,0,none⟩ x').setCell ⟨w.heap.size,1,none⟩ y').setCell ⟨w.heap.size,2,none⟩ z') x' y' z':=by
 have h0:=h.h0
 refine⟨by simp[World.setCell,Array.getElem?_modify,h0],?_,?_,((h.aV.setCell (Nat.le_refl _) _).setCell (Nat.le_refl _) _).setCell (Nat.le_refl _) _⟩
 · rw[Below.heap_setCell _ _ _ _ (by simp),Below.heap_setCell _ _ _ _ (by simp),Below.heap_setCell _ _ _ _ (by simp)];exact h.h1
 · rw[Below.heap_setCell _ _ _ _ (by simp;omega),Below.heap_setCell _ _ _ _ (by simp;omega),Below.heap_setCell _ _ _ _ (by simp;omega)];exact h.h2
theorem iF.zero {w a:World} {x y z:Value} (h:iF w a x y z):iF w ((a.setCell ⟨w.heap.size+1,0,none⟩ (.int .i64 0)).setCell ⟨w.heap.size+1+1,0,none⟩ (.int .i64 0)) x y z:=by
 have h1:=h.h1
 have h2:=h.h2
 refine⟨?_,?_,?_,(h.aV.setCell (by simp) _).setCell (by simp<;>omega) _⟩
 · rw[Below.heap_setCell _ _ _ _ (by simp;omega),Below.heap_setCell _ _ _ _ (by simp)];exact h.h0
 · rw[Below.heap_setCell _ _ _ _ (by simp)];exact set1 h1 _
 · refine set1 (a := .int .i64 0) ?_ _
   rw[Below.heap_setCell _ _ _ _ (by simp)];exact h2
def lZ (e:RE) (w:World) (x:Ending) (w':World):Prop:=
 ∃sv lv,x=.returned (.tuple #[.agg #[.int .i64 e.kind,sv,lv],.int .i64 0,.int .i64 0])∧KP (fun k=>w.heap.size≤k) w' (fun w2=>bI w2 e sv lv)∧Below w.heap.size w w'
theorem Kk (s:ByteArray) (e:RE) (w:World) (hs:s.size≤100000)
 (hat:∀p v w,XI w p s (all 0 (sb s)) 0 0 v→Calls Tryz.prog 30 #[.pointer (some ⟨p,0,none⟩)] w fun x w'=>jv w w' e x∧Ch w w' p∧XI w' p s (all 0 (sb s)) (all 0 (sb s)).length 0 v) :
 Calls Tryz.prog 14 #[.string s] w (lZ e w):=by
 have ng:∀(fn:Fn) (first cap:Array Value) (w:World),(Instr.makeFunc fn first cap).run Tryz.prog w=.ok (.func fn first cap) w:=fun _ _ _ _=>rfl
 have pz:=fun w=>Lib.run_convert_string_bytes (P:=Tryz.prog) w 9 84 5 s Tryz.underlying9 Tryz.underlying84 Tryz.underlying5
 obtain⟨W3,hW3⟩:∃W3,W3=(((w.alloc (.cells #[.int .i64 0,.slice none 0 0,.slice none 0 0] 35)).alloc (.cells #[.int .i64 0] 3)).alloc (.cells #[.int .i64 0] 3)):=⟨_,rfl⟩
 obtain⟨g0,g1,g2,g3,g4⟩:=lD w _ _ _ W3 hW3
 have hcr:=sw W3 s (by omega)
 rw[g3] at hcr
 have hall:=sD (sb s) (.slice (some ⟨w.heap.size+1+1+1,0,none⟩) s.size (grownCap W3 s.size 0 5)) (Lib.bytesWorld W3 5 s) hcr (oJ s) (by rw[bg];omega)
 clear hcr
 have hlen:=ql 0 (sb s)
 rw[bg] at hlen
 obtain⟨L,hL⟩:∃L,L=all 0 (sb s):=⟨_,rfl⟩
 rw[←hL] at hall hlen hat
 have HA:=Lib.hid hall
 have HT:=Lib.hid hat
 have HG:=Lib.hid (And.intro hW3 (And.intro g0 (And.intro g1 (And.intro g2 (And.intro g3 g4)))))
 clear hW3 g0 g1 g2 g3 g4 hall hL hat
 go_enter_defers Tryz.func14,Tryz.ntmps14
 go_wp2_with fail
 obtain⟨hW3,g0,g1,g2,g3,g4⟩:=HG.out
 rw[←hW3]
 refine HA.out.mono ?_
 rintro x w4 ⟨uv,rfl,bN,hb4⟩
 have hbW:Below W3.heap.size W3 w4:=ak (lI W3 _ s) hb4
 have bQ:iF w w4 (.int .i64 0) (.slice none 0 0) (.slice none 0 0):=iF.below ⟨g0,g1,g2,g4⟩ (by omega) hbW
 have lF:=hbW.size
 obtain⟨p,hp⟩:∃p,p=w4.heap.size:=⟨_,rfl⟩
 obtain⟨ou,cu,rfl⟩:=au bN
 have hlow : ∀ b off cap, Value.slice ou L.length cu = .slice (some ⟨b, off, none⟩) L.length cap → b < p ∧ w.heap.size + 1 + 1 < b := fun b off cap e => by
  simp only[Value.slice.injEq,true_and] at e
  obtain⟨rfl,rfl⟩:=e
  have h1:=(bN.lt b rfl).2
  have h2:=(bN.lt b rfl).1
  rw[Lib.bytesWorld_size] at h2
  omega
 have hxi:XI (w4.alloc (.cells #[.string s,.slice ou L.length cu,.int .i64 ((0:Nat):Int),.int .i64 ((0:Nat):Int)] 86)) p s L 0 0 (.slice ou L.length cu):=
  ⟨by rw[hp];exact heap_alloc_new _ _,(Row.owned bN).below (ah (Below.refl _ _) _),fun b off cap e=>by have:=hlow b off cap e;omega,Nat.zero_le _,by omega⟩
 have dM:=bQ.below (by omega) (ah (Below.refl _ _) (.cells #[.string s,.slice ou L.length cu,.int .i64 ((0:Nat):Int),.int .i64 ((0:Nat):Int)] 86))
 obtain⟨W5,bT⟩:∃W5,W5=w4.alloc (.cells #[.string s,.slice ou L.length cu,.int .i64 ((0:Nat):Int),.int .i64 ((0:Nat):Int)] 86):=⟨_,rfl⟩
 rw[←bT] at hxi dM
 have gu:w.heap.size+1+1<p:=by omega
 have hs5:w.heap.size+1+1<W5.heap.size:=by rw[bT];simp;omega
 have H5:=Lib.hid (And.intro hxi (And.intro dM (And.intro bT hp)))
 have og:=Lib.hid hlow
 clear hxi dM bN hb4 hbW bQ g0 g1 g2 g3 g4 hW3 pz HG hp lF bT hlow
 go_wp2_with fail
 rw[←H5.out.2.2.2]
 have bT:=H5.out.2.2.1
 simp only[Int.natCast_zero,Int.ofNat_zero] at bT
 rw[←bT]
 clear bT
 refine(HT.out p _ _ H5.out.1).mono ?_
 rintro x w6 ⟨⟨sv,lv,rfl,hkp⟩,hch,hx6⟩
 obtain⟨⟨o1,q1,rfl⟩,⟨o2,q2,rfl⟩⟩:=hkp.here.form
 have dZ:=H5.out.2.1.ch hs5 gu hch
 have hs6:W5.heap.size≤w6.heap.size:=hch.size
 obtain⟨X,hX⟩:∃X,X=((w6.setCell ⟨w.heap.size,0,none⟩ (.int .i64 e.kind)).setCell ⟨w.heap.size,1,none⟩ (.slice o1 e.set.length q1)).setCell ⟨w.heap.size,2,none⟩ (.slice o2 e.parts.length q2):=⟨_,rfl⟩
 have hpe:p≠w.heap.size:=by omega
 have hfr:∀b off cap,Value.slice ou L.length cu=.slice (some ⟨b,off,none⟩) L.length cap→b≠w.heap.size:=fun b off cap e0=>by have:=og.out b off cap e0;omega
 have NY:iF w X (.int .i64 e.kind) (.slice o1 e.set.length q1) (.slice o2 e.parts.length q2):=by rw[hX];exact dZ.set
 have NZ:XI X p s L L.length 0 (.slice ou L.length cu):=by rw[hX];exact((hx6.setOther hpe hfr).setOther hpe hfr).setOther hpe hfr
 have hkX : KP (fun k => W5.heap.size ≤ k) X (fun w2 => bI w2 e (.slice o1 e.set.length q1) (.slice o2 e.parts.length q2)) := by
  rw[hX]
  refine hkp.to ((((Ag.refl _ _).setCell (fun h=>?_) _).setCell (fun h=>?_) _).setCell (fun h=>?_) _)
  all_goals (have h9:W5.heap.size≤w.heap.size:=h;omega)
 have YL:W5.heap.size≤X.heap.size:=by rw[hX];simpa [World.setCell] using hs6
 obtain⟨⟨d0,d1,d2⟩,f0,f1,f2⟩:=ay dZ.h0
 have HX:=Lib.hid (And.intro NY (And.intro NZ (And.intro hkX hX)))
 clear NY NZ hkX hX dZ hx6 hkp hch hfr
 go_wp2_with fail
 rw[←HX.out.2.2.2]
 clear d0 d1 d2 f0 f1 f2
 obtain⟨⟨c0,c1,c2,c3⟩,f0,f1,f2,f3⟩:=aJ HX.out.2.1.hh
 have hl0:(0:Int)≤(L.length:Int):=by omega
 have e1:decide ((L.length:Int)<(L.length:Int))=false:=by simp
 have e2:decide (L.length<L.length)=false:=by simp
 go_quiet (fail)
 clear c0 c1 c2 c3 f0 f1 f2 f3
 have zR:=HX.out.1.ch (p:=p) (by omega) gu (Ch.drewN p nq)
 have Xi:KP (fun k=>W5.heap.size≤k) (X.drewN nq) (fun w2=>bI w2 e (.slice o1 e.set.length q1) (.slice o2 e.parts.length q2)):=HX.out.2.2.1.to ⟨rfl,rfl,rfl,Nat.le_refl _,fun _ _ _=>rfl⟩
 have hs7:W5.heap.size≤(X.drewN nq).heap.size:=YL
 generalize X.drewN nq=Y at zR Xi hs7 ⊢
 obtain⟨⟨d0,d1,d2⟩,f0,f1,f2⟩:=ay zR.h0
 obtain⟨d3,f3⟩:=aj zR.h1
 obtain⟨d4,f4⟩:=aj zR.h2
 have HY:=Lib.hid (And.intro zR Xi)
 clear zR Xi
 go_wp2_with fail
 obtain⟨W8,dG⟩:∃W8,W8=((((Y.setCell ⟨w.heap.size,0,none⟩ (.int .i64 e.kind)).setCell ⟨w.heap.size,1,none⟩ (.slice o1 e.set.length q1)).setCell ⟨w.heap.size,2,none⟩ (.slice o2 e.parts.length q2)).setCell ⟨w.heap.size+1,0,none⟩ (.int .i64 0)).setCell ⟨w.heap.size+1+1,0,none⟩ (.int .i64 0):=⟨_,rfl⟩
 rw[←dG]
 have aZ:iF w W8 (.int .i64 e.kind) (.slice o1 e.set.length q1) (.slice o2 e.parts.length q2):=by rw[dG];exact(HY.out.1.set).zero
 have qh : KP (fun k => W5.heap.size ≤ k) W8 (fun w2 => bI w2 e (.slice o1 e.set.length q1) (.slice o2 e.parts.length q2)) := by
  rw[dG]
  refine HY.out.2.to ((((((Ag.refl _ _).setCell (fun h=>?_) _).setCell (fun h=>?_) _).setCell (fun h=>?_) _).setCell (fun h=>?_) _).setCell (fun h=>?_) _)
  · have h9:W5.heap.size≤w.heap.size:=h;omega
  · have h9:W5.heap.size≤w.heap.size:=h;omega
  · have h9:W5.heap.size≤w.heap.size:=h;omega
  · have h9:W5.heap.size≤w.heap.size+1:=h;omega
  · have h9:W5.heap.size≤w.heap.size+1+1:=h;omega
 have iK:w.heap.size+1+1<W8.heap.size:=by rw[dG];simp[World.setCell];omega
 clear dG d0 d1 d2 f0 f1 f2 d3 f3 d4 f4
 refine leaves_cons (f:=28) (args:=#[.pointer (some ⟨w.heap.size,0,none⟩),.pointer (some ⟨w.heap.size+1,0,none⟩),.pointer (some ⟨w.heap.size+1+1,0,none⟩)]) (by simp) (by simp[go_sem]) ?_
 refine(Jg _ _ _ _).mono ?_
 rintro x u' w'' ⟨rfl,rfl,rfl⟩
 have gB:=aZ.below iK (ah (Below.refl _ _) (.cells #[.int .i64 0,.int .i64 0] 65))
 have jC:=qh.to (.of (ah (Below.refl _ _) (.cells #[.int .i64 0,.int .i64 0] 65)))
 obtain⟨W9,bP⟩:∃W9,W9=W8.alloc (.cells #[.int .i64 0,.int .i64 0] 65):=⟨_,rfl⟩
 rw[←bP] at gB jC ⊢
 clear bP
 obtain⟨⟨c0,c1,c2⟩,z0,z1,z2⟩:=ay gB.h0
 obtain⟨c3,z3⟩:=aj gB.h1
 obtain⟨c4,z4⟩:=aj gB.h2
 have HP:lZ e w (.returned (.tuple #[.agg #[.int .i64 e.kind,.slice o1 e.set.length q1,.slice o2 e.parts.length q2],.int .i64 0,.int .i64 0])) W9:=
  ⟨_,_,rfl,jC.sub (fun k _ hk=>by have h9:W5.heap.size≤k:=hk;omega),gB.aV⟩
 simp[Leaves,settle,results,Tryz.results14,go_sem,c0,c1,c2,c3,c4]
 exact HP
end Go.Proofs.YtfkmajjgkdjncaaGreatDoor

set_option maxHeartbeats 4000000
set_option maxRecDepth 100000
namespace Go.Proofs.YtfkmajjgkdjncaaGreatDoor
open Go.RowKit De Wd
theorem dH {w:World} {p:Nat} {a b c d e f:Value} {t:TypeId} (h:w.heap[p]? = some (.cells #[a,b,c,d,e,f] t (0,0))):(w.cell? ⟨p,0,none⟩=some a∧w.cell? ⟨p,1,none⟩=some b∧w.cell? ⟨p,2,none⟩=some c∧w.cell? ⟨p,3,none⟩=some d∧w.cell? ⟨p,4,none⟩=some e∧w.cell? ⟨p,5,none⟩=some f)∧w.frozen? ⟨p,0,none⟩=false∧w.frozen? ⟨p,1,none⟩=false∧w.frozen? ⟨p,2,none⟩=false∧w.frozen? ⟨p,3,none⟩=false∧w.frozen? ⟨p,4,none⟩=false∧w.frozen? ⟨p,5,none⟩=false:=by
 simp[World.cell?,World.frozen?,h]
structure TI (w W:World) (p t:Nat) (U:List Uw) (k:Nat) (wv tv rv ti ri c0 c1 c2 c3 c4 c5:Value):Prop where
 x:PI W p U k 0 wv tv rv ti ri
 c:Ch w W p
 ht:W.heap[t]? = some (.cells #[c0,c1,c2,c3,c4,c5] 54 (0,0))
section
variable {w W W':World} {p t k k' k0 d0:Nat} {U:List Uw} {wv tv rv ti ri c0 c1 c2 c3 c4 c5 dz dA dB dD:Value}
theorem TI.to (h:TI w W p t U k wv tv rv ti ri c0 c1 c2 c3 c4 c5) (hc:Ch W W' p) (hx:PI W' p U k' 0 wv tv rv ti ri) (hp:t≠p):TI w W' p t U k' wv tv rv ti ri c0 c1 c2 c3 c4 c5:=
 ⟨hx,h.c.trans hc,(hc.block _ (lt_of_some h.ht) hp).trans h.ht⟩
theorem TI.set1 (h:TI w W p t U k wv tv rv ti ri c0 c1 c2 c3 c4 c5) (h0:PI w p U k0 d0 wv dz dA dB dD) (x:Value) (hwt:w.heap.size≤t):TI w (W.setCell ⟨t,1,none⟩ x) p t U k wv tv rv ti ri c0 x c2 c3 c4 c5:=
 ⟨h0.aL h.x hwt,h.c.aN hwt,by have:=h.ht;simp[World.setCell,Array.getElem?_modify,this]⟩
theorem TI.set2 (h:TI w W p t U k wv tv rv ti ri c0 c1 c2 c3 c4 c5) (h0:PI w p U k0 d0 wv dz dA dB dD) (x:Value) (hwt:w.heap.size≤t):TI w (W.setCell ⟨t,2,none⟩ x) p t U k wv tv rv ti ri c0 c1 x c3 c4 c5:=
 ⟨h0.aL h.x hwt,h.c.aN hwt,by have:=h.ht;simp[World.setCell,Array.getElem?_modify,this]⟩
theorem TI.Cn (h:TI w W p t U k wv tv rv ti ri c0 c1 c2 c3 c4 c5) (h0:PI w p U k0 d0 wv dz dA dB dD) (x y z:Value) (hwt:w.heap.size≤t):TI w (((W.setCell ⟨t,3,none⟩ x).setCell ⟨t,4,none⟩ y).setCell ⟨t,5,none⟩ z) p t U k wv tv rv ti ri c0 c1 c2 x y z:=
 ⟨h0.aL (h0.aL (h0.aL h.x hwt) hwt) hwt,((h.c.aN hwt).aN hwt).aN hwt,by have:=h.ht;simp[World.setCell,Array.getElem?_modify,this]⟩
end
theorem LA (p k k0 d0:Nat) (U:List Uw) (V:Pm.Ws) (hV:iq V U) (wv tv rv ti ri:Value) (dz dA dB dD:Value) (aD:List (TK×Value×Value)) (aG:List (RU×Value)) (lt lr:List Int) (t:TK) (tx:ByteArray) (w0 w:World) (h0:PI w0 p U k0 d0 wv dz dA dB dD) (aC:LI w0 w p U (k+1) wv tv rv ti ri aD aG lt lr) (hT:Pm.LG V k t tx) (hre:∀w,Calls Tryz.prog 14 #[.string tx] w (lZ t.re w)) :
 Calls Tryz.prog 56 #[.pointer (some ⟨p,0,none⟩)] w fun x w'=>x=.returned (.tuple #[])∧∃tv' a b,LI w0 w' p U (k+6) wv tv' rv ti ri (aD++[(t,a,b)]) aG lt lr:=by
 have h:=aC.x
 have dw:=h.lt
 have hp0:=h0.lt
 have sJ:=aC.c.size
 have Kc:=Lib.hid (au aC.tk.row)
 have aU:=Lib.hid aC
 have HX0:=Lib.hid h0
 have HX:=Lib.hid h
 have gK:=Lib.hid hT
 obtain⟨ir,uX,hr1,hr2,hr3⟩:=yL
 have ZG:=hT.kd
 have oN:=Lib.hid hre
 clear aC h0 h hT hre
 go_enter Tryz.func56,Tryz.ntmps56
 go_wp2_with fail
 refine(uO p (k+1) 0 U V hV wv tv rv ti ri t.name _ HX.out gK.out.w1 gK.out.nm).mono ?_
 rintro x w1 ⟨rfl,hc1,hx1⟩
 obtain⟨tb,htb⟩:∃tb,tb=w1.heap.size:=⟨_,rfl⟩
 have hs1:=hc1.size
 have hwt:w.heap.size≤tb:=by omega
 have htp:tb≠p:=by omega
 obtain⟨W1,hW1⟩:∃W1,W1=w1.alloc (.cells #[.string t.name,.int .i64 0,.int .i64 0,.int .i64 0,.slice none 0 0,.slice none 0 0] 54):=⟨_,rfl⟩
 have hti:TI w W1 p tb U (k+2) wv tv rv ti ri (.string t.name) (.int .i64 0) (.int .i64 0) (.int .i64 0) (.slice none 0 0) (.slice none 0 0):=by
  have hb:=ah (Below.refl w1.heap.size w1) (.cells #[.string t.name,.int .i64 0,.int .i64 0,.int .i64 0,.slice none 0 0,.slice none 0 0] 54)
  rw[hW1]
  exact⟨hx1.moved hb,hc1.trans (Ch.of hb),by rw[htb];exact heap_alloc_new w1 _⟩
 have H1:=Lib.hid hti
 have HW1:=Lib.hid hW1
 have ND:=Lib.hid htb
 clear hti hW1 htb hc1 hx1
 go_wp2_with (with_reducible rw[←HW1.out])
 simp only[←ND.out]
 rcases ZG with hkd|hkd|hkd
 · skip
   have HK:=Lib.hid (show V[k+2]? = some (1,sb ⟨#[105,110,116]⟩)∧t.kind=0 from⟨by have h9:=gK.out.w2;rw[hkd] at h9;exact h9,hkd⟩)
   clear hkd
   obtain⟨q2,hq2⟩:=hV.at H1.out.x.le
   have bG:=iV hV hq2 (kk:=1) (by decide) ⟨#[99,97,108,108]⟩
   rw[decide_eq_false (fun e=>by rw[HK.out.1] at e;revert e;decide)] at bG
   have gM:=Lib.hid hq2
   have HT2:=Lib.hid bG
   clear hq2 bG
   refine(aH 1 ⟨#[99,97,108,108]⟩ _).mono ?_
   rintro x lQ ⟨b12,iQ,rfl,hbx,hbt⟩
   have aF:=Lib.hid (And.intro (H1.out.x.moved hbt) (And.intro hbx hbt))
   clear hbx hbt
   go_wp2_with fail
   refine(bV p (k+2) 0 U wv tv rv ti ri 1 ⟨#[99,97,108,108]⟩ b12 iQ q2 _ (by decide) aF.out.1 gM.out aF.out.2.1 ?_ ?_).mono ?_
   · intro e;have h1:=aF.out.1.hh;rw[←e,aF.out.2.1.h1] at h1;cases h1
   · intro e;have h1:=aF.out.1.hh;rw[←e,aF.out.2.1.h2] at h1;cases h1
   rintro x w2 ⟨rfl,hc2,hx2⟩
   replace hc2:=(Ch.of (p:=p) aF.out.2.2).trans hc2
   rw[HT2.out] at hx2 ⊢
   rw[if_neg (by decide)] at hx2
   have hi2:=H1.out.to hc2 hx2 htp
   clear hx2 hc2
   have H2:=Lib.hid hi2
   clear hi2
   go_wp2_with fail
   obtain⟨q3,hq3⟩:=hV.at H2.out.x.le
   have gJ:=iV hV hq3 (kk:=1) (by decide) ⟨#[114,101,116]⟩
   rw[decide_eq_false (fun e=>by rw[HK.out.1] at e;revert e;decide)] at gJ
   have jJ:=Lib.hid hq3
   have HT3:=Lib.hid gJ
   clear hq3 gJ
   refine(aH 1 ⟨#[114,101,116]⟩ _).mono ?_
   rintro x vg ⟨b13,kD,rfl,hbx,hbt⟩
   have bL:=Lib.hid (And.intro (H2.out.x.moved hbt) (And.intro hbx hbt))
   clear hbx hbt
   go_wp2_with fail
   refine(bV p (k+2) 0 U wv tv rv ti ri 1 ⟨#[114,101,116]⟩ b13 kD q3 _ (by decide) bL.out.1 jJ.out bL.out.2.1 ?_ ?_).mono ?_
   · intro e;have h1:=bL.out.1.hh;rw[←e,bL.out.2.1.h1] at h1;cases h1
   · intro e;have h1:=bL.out.1.hh;rw[←e,bL.out.2.1.h2] at h1;cases h1
   rintro x w3 ⟨rfl,hc3,hx3⟩
   replace hc3:=(Ch.of (p:=p) bL.out.2.2).trans hc3
   rw[HT3.out] at hx3 ⊢
   rw[if_neg (by decide)] at hx3
   have hi3:=H2.out.to hc3 hx3 htp
   clear hx3 hc3
   have H3:=Lib.hid hi3
   obtain⟨q4,hq4⟩:=hV.at hi3.x.le
   have N7:tst 1 ⟨#[105,110,116]⟩ q4=true:=by rw[iV hV hq4 (by decide)];exact decide_eq_true HK.out.1
   have NG:=Lib.hid hq4
   have Xh:=Lib.hid N7
   clear hi3 hq4 N7
   go_wp2_with fail
   refine(aH 1 ⟨#[105,110,116]⟩ _).mono ?_
   rintro x Rz ⟨b14,Ci,rfl,hbx,hbt⟩
   have gI:=Lib.hid (And.intro (H3.out.x.moved hbt) (And.intro hbx hbt))
   clear hbx hbt
   go_wp2_with fail
   refine(kL p (k+2) 0 U wv tv rv ti ri 1 ⟨#[105,110,116]⟩ b14 Ci q4 _ (by decide) gI.out.1 NG.out gI.out.2.1 ?_ ?_ Xh.out).mono ?_
   · intro e;have h1:=gI.out.1.hh;rw[←e,gI.out.2.1.h1] at h1;cases h1
   · intro e;have h1:=gI.out.1.hh;rw[←e,gI.out.2.1.h2] at h1;cases h1
   rintro x w4 ⟨rfl,hc4,hx4⟩
   replace hc4:=(Ch.of (p:=p) gI.out.2.2).trans hc4
   have H4:=Lib.hid (H3.out.to hc4 hx4 htp)
   clear hc4 hx4
   go_wp2_with fail
   refine(pY p (k+3) 0 U V hV wv tv rv ti ri t.cls _ H4.out.x gK.out.w3 gK.out.cl).mono ?_
   rintro x w5 ⟨rfl,aK,hx5⟩
   have hi5:=H4.out.to aK hx5 htp
   obtain⟨⟨d0,d1,d2,d3,d4,d5⟩,g0,g1,g2,g3,g4,g5⟩:=dH hi5.ht
   obtain⟨W5,bT⟩:∃W5,W5=w5.setCell ⟨tb,2,none⟩ (.int .i64 t.cls):=⟨_,rfl⟩
   have jh:=hi5.set2 HX.out (.int .i64 t.cls) hwt
   rw[←bT] at jh
   have H5:=Lib.hid jh
   have Cj:=Lib.hid bT
   obtain⟨q6,eB⟩:=hV.at jh.x.le
   have y7:tst 3 ⟨#[61]⟩ q6=true:=by rw[cZ hV eB 61];exact decide_eq_true gK.out.w4
   have nN:=Lib.hid eB
   have Iw:=Lib.hid y7
   clear hi5 jh aK hx5 bT eB y7
   go_wp2_with (with_reducible rw[←Cj.out])
   clear d0 d1 d2 d3 d4 d5 g0 g1 g2 g3 g4 g5
   refine(aH 3 ⟨#[61]⟩ _).mono ?_
   rintro x RA ⟨b16,Ck,rfl,hbx,hbt⟩
   have gN:=Lib.hid (And.intro (H5.out.x.moved hbt) (And.intro hbx hbt))
   clear hbx hbt
   go_wp2_with fail
   refine(kL p (k+4) 0 U wv tv rv ti ri 3 ⟨#[61]⟩ b16 Ck q6 _ (by decide) gN.out.1 nN.out gN.out.2.1 ?_ ?_ Iw.out).mono ?_
   · intro e;have h1:=gN.out.1.hh;rw[←e,gN.out.2.1.h1] at h1;cases h1
   · intro e;have h1:=gN.out.1.hh;rw[←e,gN.out.2.1.h2] at h1;cases h1
   rintro x w6 ⟨rfl,hc6,hx6⟩
   replace hc6:=(Ch.of (p:=p) gN.out.2.2).trans hc6
   have fU:=H5.out.to hc6 hx6 htp
   obtain⟨⟨ek,eb,en⟩,uh⟩:=hV.at fU.x.le
   obtain⟨e1,e2⟩:=jM hV uh gK.out.w5
   dsimp only at e1 e2
   obtain rfl:(4:Int)=ek:=e1.symm
   have N8:=Lib.hid e2
   have H6:=Lib.hid fU
   have zP:=Lib.hid uh
   have Iy:=Lib.hid (show iU 4 ((4:Int),eb,en)=true from rfl)
   clear fU hc6 hx6 uh e1 e2
   go_wp2_with fail
   refine(dO 4 _).mono ?_
   rintro x RB ⟨b17,rfl,hbx,hbt⟩
   have oI:=Lib.hid (And.intro (H6.out.x.moved hbt) (And.intro hbx hbt))
   clear hbx hbt
   go_wp2_with fail
   refine(rz p (k+5) 0 U wv tv rv ti ri 4 b17 ((4:Int),eb,en) _ (by decide) oI.out.1 zP.out oI.out.2.1 Iy.out).mono ?_
   rintro x w7 ⟨rfl,eF,hx7⟩
   replace eF:=(Ch.of (p:=p) oI.out.2.2).trans eF
   have hbel:=ah (Below.refl w7.heap.size w7) (.cells #[.int .i64 4,.string eb,.int .i64 en] 72)
   have lY:=(H6.out.to eF hx7 htp).to (Ch.of hbel) ((H6.out.to eF hx7 htp).x.moved hbel) htp
   have hge:=heap_alloc_new w7 (.cells #[.int .i64 4,.string eb,.int .i64 en] 72)
   obtain⟨W7,lH⟩:∃W7,W7=w7.alloc (.cells #[.int .i64 4,.string eb,.int .i64 en] 72):=⟨_,rfl⟩
   rw[←lH] at lY hge
   obtain⟨⟨u0,u1,u2⟩,m0,m1,m2⟩:=ay hge
   have Ll:tb<W7.heap.size:=lt_of_some lY.ht
   have H7:=Lib.hid lY
   have Cm:=Lib.hid lH
   clear hbel lY hge eF hx7 lH
   go_wp2_with (with_reducible rw[←Cm.out])
   rw[N8.out]
   refine(oN.out _).mono ?_
   rintro x w8 ⟨Wz,WA,rfl,qh,gF⟩
   obtain⟨⟨o8,q8,rfl⟩,⟨o9,q9,rfl⟩⟩:=qh.here.form
   have nO:=H7.out.to (Ch.of gF) (H7.out.x.moved gF) htp
   have hbr:=ah (Below.refl w8.heap.size w8) (.cells #[.int .i64 t.re.kind,.slice o8 t.re.set.length q8,.slice o9 t.re.parts.length q9] 35)
   have hi9:=nO.to (Ch.of hbr) (nO.x.moved hbr) htp
   have hgr:=heap_alloc_new w8 (.cells #[.int .i64 t.re.kind,.slice o8 t.re.set.length q8,.slice o9 t.re.parts.length q9] 35)
   obtain⟨W8,dG⟩:∃W8,W8=w8.alloc (.cells #[.int .i64 t.re.kind,.slice o8 t.re.set.length q8,.slice o9 t.re.parts.length q9] 35):=⟨_,rfl⟩
   have jC:=qh.to (Ag.of hbr)
   rw[←dG] at hi9 hgr jC
   obtain⟨rb,hrb⟩:∃rb,rb=w8.heap.size:=⟨_,rfl⟩
   have WB:W7.heap.size≤w8.heap.size:=gF.size
   have htr:¬tb=rb:=by omega
   have Qd:¬rb=tb:=by omega
   rw[←hrb] at hgr
   obtain⟨⟨a0,a1,a2⟩,b0,b1,b2⟩:=ay hgr
   obtain⟨⟨d0,d1,d2,d3,d4,d5⟩,g0,g1,g2,g3,g4,g5⟩:=dH hi9.ht
   obtain⟨W9,bP⟩:∃W9,W9=((W8.setCell ⟨tb,3,none⟩ (.int .i64 t.re.kind)).setCell ⟨tb,4,none⟩ (.slice o8 t.re.set.length q8)).setCell ⟨tb,5,none⟩ (.slice o9 t.re.parts.length q9):=⟨_,rfl⟩
   have hi9':=hi9.Cn HX.out (.int .i64 t.re.kind) (.slice o8 t.re.set.length q8) (.slice o9 t.re.parts.length q9) hwt
   rw[←bP] at hi9'
   have Qe:w.heap.size≤W7.heap.size:=H7.out.c.size
   have uj : KP (fun j => w.heap.size ≤ j ∧ j ≠ tb) W9 (fun w' => bI w' t.re (.slice o8 t.re.set.length q8) (.slice o9 t.re.parts.length q9)) := by
    rw[bP]
    exact(jC.sub (fun j _ hj=>(⟨by have h2:W7.heap.size≤j:=hj;omega,by have h2:W7.heap.size≤j:=hj;omega⟩:w.heap.size≤j∧j≠tb))).to ((((Ag.refl _ _).setCell (fun h=>h.2 rfl) _).setCell (fun h=>h.2 rfl) _).setCell (fun h=>h.2 rfl) _)
   have vI:=Lib.hid dG
   have uf:=Lib.hid bP
   have Ht:=Lib.hid hrb
   have HI:=Lib.hid (And.intro hi9' uj)
   clear nO hi9 hi9' hbr hgr qh jC uj gF dG bP hrb u0 u1 u2 m0 m1 m2
   obtain⟨yN,yO,yI⟩:=Kc.out
   subst yI
   have aC:=aU.out.ch hp0 HI.out.1.c HI.out.1.x (by omega)
   obtain⟨⟨c0,c1,c2,c3,Nz,c5,c6⟩,f0,f1,f2,f3,f4,f5,f6⟩:=aM HI.out.1.x.hh
   obtain⟨⟨v0,v1,v2,v3,v4,v5⟩,l0,l1,l2,l3,l4,l5⟩:=dH HI.out.1.ht
   have qY:=Lib.hid aC
   have uS:w0.heap.size≤W9.heap.size:=aC.c.size
   have Qf:=aU.out.n1
   have hsm:=aC.x.small
   have hpk:=aC.x.le
   have hpz:p<W9.heap.size:=lt_of_some HI.out.1.x.hh
   have hrz:tb<W9.heap.size:=lt_of_some HI.out.1.ht
   have hpn:¬p=W9.heap.size:=by omega
   have hrn:¬tb=W9.heap.size:=by omega
   have uT:¬W9.heap.size=p:=by omega
   have He:¬W9.heap.size=tb:=by omega
   clear aC
   go_wp2_with (first|(with_reducible rw[←vI.out];simp only[←Ht.out])|(with_reducible rw[←uf.out]))
   clear a0 a1 a2 b0 b1 b2 d0 d1 d2 d3 d4 d5 g0 g1 g2 g3 g4 g5
   go_region_law
    (refine iY _ rfl _ _ 23 rfl w0.heap.size 54 ir _ 6 88 Tryz.underlying23 uX hr1 hr2 hr3 rfl (by decide) (.slice yN aD.length yO) aD.length (aD.flatMap six) rfl (by repeat (first | exact qY.out.tk.row | refine World.ownsRow.alloc ?_ _ | refine bX ?_)) _ 1 _ rfl (by first | exact bE rfl (by simp) | exact qD (bE rfl (by simp))) rfl (by simp [Value.oneCell']) (by unfold maxLen; omega) (by omega) (by simp; omega) ?_; intro v8 w9 aI fu dP bF; obtain ⟨o7, c7, rfl⟩ := au aI
     have iy:=(bF.block p hp0).trans (aB (by repeat (first|exact Below.refl _ _|refine Below.drew ?_|refine ah ?_ _)) HI.out.1.x.hh)
     obtain⟨⟨z0,z1,z2,z3,z4,z5,z6⟩,y0,y1,y2,y3,y4,y5,y6⟩:=aM iy)
   all_goals (
    have hq : KP (fun j => XB p rv ti ri j ∧ (Value.slice yN aD.length yO).ownBlock ≠ some j) W9 (fun w' => bI w' t.re (.slice o8 t.re.set.length q8) (.slice o9 t.re.parts.length q9)) :=
     HI.out.2.sub (fun j _ hj=>⟨⟨by omega,fun e=>by have:=(aU.out.ru.row.lt j e).2;omega,fun e=>by have:=(aU.out.it.lt j e).2;omega,fun e=>by have:=(aU.out.ir.lt j e).2;omega⟩,fun e=>by have:=(aU.out.tk.row.lt j e).2;omega⟩)
    have kM:=LI.EK HX0.out qY.out (q:=(t,.slice o8 t.re.set.length q8,.slice o9 t.re.parts.length q9)) (by repeat (first|exact Below.refl _ _|refine Below.drew ?_|refine ah ?_ _)) (by simpa only[six,HK.out.2] using aI) fu dP bF hq (by omega)
    clear z0 z1 z2 z3 z4 z5 z6 y0 y1 y2 y3 y4 y5 y6
    go_end0
    exact⟨rfl,_,_,_,kM⟩)
 · skip
   have HK:=Lib.hid (show V[k+2]? = some (1,sb ⟨#[99,97,108,108]⟩)∧t.kind=1 from⟨by have h9:=gK.out.w2;rw[hkd] at h9;exact h9,hkd⟩)
   clear hkd
   obtain⟨q2,hq2⟩:=hV.at H1.out.x.le
   have bG:=iV hV hq2 (kk:=1) (by decide) ⟨#[99,97,108,108]⟩
   rw[decide_eq_true HK.out.1] at bG
   have gM:=Lib.hid hq2
   have HT2:=Lib.hid bG
   clear hq2 bG
   refine(aH 1 ⟨#[99,97,108,108]⟩ _).mono ?_
   rintro x lQ ⟨b12,iQ,rfl,hbx,hbt⟩
   have aF:=Lib.hid (And.intro (H1.out.x.moved hbt) (And.intro hbx hbt))
   clear hbx hbt
   go_wp2_with fail
   refine(bV p (k+2) 0 U wv tv rv ti ri 1 ⟨#[99,97,108,108]⟩ b12 iQ q2 _ (by decide) aF.out.1 gM.out aF.out.2.1 ?_ ?_).mono ?_
   · intro e;have h1:=aF.out.1.hh;rw[←e,aF.out.2.1.h1] at h1;cases h1
   · intro e;have h1:=aF.out.1.hh;rw[←e,aF.out.2.1.h2] at h1;cases h1
   rintro x w2 ⟨rfl,hc2,hx2⟩
   replace hc2:=(Ch.of (p:=p) aF.out.2.2).trans hc2
   rw[HT2.out] at hx2 ⊢
   rw[if_pos rfl] at hx2
   have hi2:=H1.out.to hc2 hx2 htp
   clear hx2 hc2
   obtain⟨⟨d0,d1,d2,d3,d4,d5⟩,g0,g1,g2,g3,g4,g5⟩:=dH hi2.ht
   obtain⟨W4,eT⟩:∃W4,W4=w2.setCell ⟨tb,1,none⟩ (.int .i64 1):=⟨_,rfl⟩
   have hi4:=hi2.set1 HX.out (.int .i64 1) hwt
   rw[←eT] at hi4
   have H4:=Lib.hid hi4
   have Hg:=Lib.hid eT
   clear hi2 hi4 eT
   go_wp2_with (with_reducible rw[←Hg.out])
   clear d0 d1 d2 d3 d4 d5 g0 g1 g2 g3 g4 g5
   refine(pY p (k+3) 0 U V hV wv tv rv ti ri t.cls _ H4.out.x gK.out.w3 gK.out.cl).mono ?_
   rintro x w5 ⟨rfl,aK,hx5⟩
   have hi5:=H4.out.to aK hx5 htp
   obtain⟨⟨d0,d1,d2,d3,d4,d5⟩,g0,g1,g2,g3,g4,g5⟩:=dH hi5.ht
   obtain⟨W5,bT⟩:∃W5,W5=w5.setCell ⟨tb,2,none⟩ (.int .i64 t.cls):=⟨_,rfl⟩
   have jh:=hi5.set2 HX.out (.int .i64 t.cls) hwt
   rw[←bT] at jh
   have H5:=Lib.hid jh
   have Cj:=Lib.hid bT
   obtain⟨q6,eB⟩:=hV.at jh.x.le
   have y7:tst 3 ⟨#[61]⟩ q6=true:=by rw[cZ hV eB 61];exact decide_eq_true gK.out.w4
   have nN:=Lib.hid eB
   have Iw:=Lib.hid y7
   clear hi5 jh aK hx5 bT eB y7
   go_wp2_with (with_reducible rw[←Cj.out])
   clear d0 d1 d2 d3 d4 d5 g0 g1 g2 g3 g4 g5
   refine(aH 3 ⟨#[61]⟩ _).mono ?_
   rintro x RA ⟨b16,Ck,rfl,hbx,hbt⟩
   have gN:=Lib.hid (And.intro (H5.out.x.moved hbt) (And.intro hbx hbt))
   clear hbx hbt
   go_wp2_with fail
   refine(kL p (k+4) 0 U wv tv rv ti ri 3 ⟨#[61]⟩ b16 Ck q6 _ (by decide) gN.out.1 nN.out gN.out.2.1 ?_ ?_ Iw.out).mono ?_
   · intro e;have h1:=gN.out.1.hh;rw[←e,gN.out.2.1.h1] at h1;cases h1
   · intro e;have h1:=gN.out.1.hh;rw[←e,gN.out.2.1.h2] at h1;cases h1
   rintro x w6 ⟨rfl,hc6,hx6⟩
   replace hc6:=(Ch.of (p:=p) gN.out.2.2).trans hc6
   have fU:=H5.out.to hc6 hx6 htp
   obtain⟨⟨ek,eb,en⟩,uh⟩:=hV.at fU.x.le
   obtain⟨e1,e2⟩:=jM hV uh gK.out.w5
   dsimp only at e1 e2
   obtain rfl:(4:Int)=ek:=e1.symm
   have N8:=Lib.hid e2
   have H6:=Lib.hid fU
   have zP:=Lib.hid uh
   have Iy:=Lib.hid (show iU 4 ((4:Int),eb,en)=true from rfl)
   clear fU hc6 hx6 uh e1 e2
   go_wp2_with fail
   refine(dO 4 _).mono ?_
   rintro x RB ⟨b17,rfl,hbx,hbt⟩
   have oI:=Lib.hid (And.intro (H6.out.x.moved hbt) (And.intro hbx hbt))
   clear hbx hbt
   go_wp2_with fail
   refine(rz p (k+5) 0 U wv tv rv ti ri 4 b17 ((4:Int),eb,en) _ (by decide) oI.out.1 zP.out oI.out.2.1 Iy.out).mono ?_
   rintro x w7 ⟨rfl,eF,hx7⟩
   replace eF:=(Ch.of (p:=p) oI.out.2.2).trans eF
   have hbel:=ah (Below.refl w7.heap.size w7) (.cells #[.int .i64 4,.string eb,.int .i64 en] 72)
   have lY:=(H6.out.to eF hx7 htp).to (Ch.of hbel) ((H6.out.to eF hx7 htp).x.moved hbel) htp
   have hge:=heap_alloc_new w7 (.cells #[.int .i64 4,.string eb,.int .i64 en] 72)
   obtain⟨W7,lH⟩:∃W7,W7=w7.alloc (.cells #[.int .i64 4,.string eb,.int .i64 en] 72):=⟨_,rfl⟩
   rw[←lH] at lY hge
   obtain⟨⟨u0,u1,u2⟩,m0,m1,m2⟩:=ay hge
   have Ll:tb<W7.heap.size:=lt_of_some lY.ht
   have H7:=Lib.hid lY
   have Cm:=Lib.hid lH
   clear hbel lY hge eF hx7 lH
   go_wp2_with (with_reducible rw[←Cm.out])
   rw[N8.out]
   refine(oN.out _).mono ?_
   rintro x w8 ⟨Wz,WA,rfl,qh,gF⟩
   obtain⟨⟨o8,q8,rfl⟩,⟨o9,q9,rfl⟩⟩:=qh.here.form
   have nO:=H7.out.to (Ch.of gF) (H7.out.x.moved gF) htp
   have hbr:=ah (Below.refl w8.heap.size w8) (.cells #[.int .i64 t.re.kind,.slice o8 t.re.set.length q8,.slice o9 t.re.parts.length q9] 35)
   have hi9:=nO.to (Ch.of hbr) (nO.x.moved hbr) htp
   have hgr:=heap_alloc_new w8 (.cells #[.int .i64 t.re.kind,.slice o8 t.re.set.length q8,.slice o9 t.re.parts.length q9] 35)
   obtain⟨W8,dG⟩:∃W8,W8=w8.alloc (.cells #[.int .i64 t.re.kind,.slice o8 t.re.set.length q8,.slice o9 t.re.parts.length q9] 35):=⟨_,rfl⟩
   have jC:=qh.to (Ag.of hbr)
   rw[←dG] at hi9 hgr jC
   obtain⟨rb,hrb⟩:∃rb,rb=w8.heap.size:=⟨_,rfl⟩
   have WB:W7.heap.size≤w8.heap.size:=gF.size
   have htr:¬tb=rb:=by omega
   have Qd:¬rb=tb:=by omega
   rw[←hrb] at hgr
   obtain⟨⟨a0,a1,a2⟩,b0,b1,b2⟩:=ay hgr
   obtain⟨⟨d0,d1,d2,d3,d4,d5⟩,g0,g1,g2,g3,g4,g5⟩:=dH hi9.ht
   obtain⟨W9,bP⟩:∃W9,W9=((W8.setCell ⟨tb,3,none⟩ (.int .i64 t.re.kind)).setCell ⟨tb,4,none⟩ (.slice o8 t.re.set.length q8)).setCell ⟨tb,5,none⟩ (.slice o9 t.re.parts.length q9):=⟨_,rfl⟩
   have hi9':=hi9.Cn HX.out (.int .i64 t.re.kind) (.slice o8 t.re.set.length q8) (.slice o9 t.re.parts.length q9) hwt
   rw[←bP] at hi9'
   have Qe:w.heap.size≤W7.heap.size:=H7.out.c.size
   have uj : KP (fun j => w.heap.size ≤ j ∧ j ≠ tb) W9 (fun w' => bI w' t.re (.slice o8 t.re.set.length q8) (.slice o9 t.re.parts.length q9)) := by
    rw[bP]
    exact(jC.sub (fun j _ hj=>(⟨by have h2:W7.heap.size≤j:=hj;omega,by have h2:W7.heap.size≤j:=hj;omega⟩:w.heap.size≤j∧j≠tb))).to ((((Ag.refl _ _).setCell (fun h=>h.2 rfl) _).setCell (fun h=>h.2 rfl) _).setCell (fun h=>h.2 rfl) _)
   have vI:=Lib.hid dG
   have uf:=Lib.hid bP
   have Ht:=Lib.hid hrb
   have HI:=Lib.hid (And.intro hi9' uj)
   clear nO hi9 hi9' hbr hgr qh jC uj gF dG bP hrb u0 u1 u2 m0 m1 m2
   obtain⟨yN,yO,yI⟩:=Kc.out
   subst yI
   have aC:=aU.out.ch hp0 HI.out.1.c HI.out.1.x (by omega)
   obtain⟨⟨c0,c1,c2,c3,Nz,c5,c6⟩,f0,f1,f2,f3,f4,f5,f6⟩:=aM HI.out.1.x.hh
   obtain⟨⟨v0,v1,v2,v3,v4,v5⟩,l0,l1,l2,l3,l4,l5⟩:=dH HI.out.1.ht
   have qY:=Lib.hid aC
   have uS:w0.heap.size≤W9.heap.size:=aC.c.size
   have Qf:=aU.out.n1
   have hsm:=aC.x.small
   have hpk:=aC.x.le
   have hpz:p<W9.heap.size:=lt_of_some HI.out.1.x.hh
   have hrz:tb<W9.heap.size:=lt_of_some HI.out.1.ht
   have hpn:¬p=W9.heap.size:=by omega
   have hrn:¬tb=W9.heap.size:=by omega
   have uT:¬W9.heap.size=p:=by omega
   have He:¬W9.heap.size=tb:=by omega
   clear aC
   go_wp2_with (first|(with_reducible rw[←vI.out];simp only[←Ht.out])|(with_reducible rw[←uf.out]))
   clear a0 a1 a2 b0 b1 b2 d0 d1 d2 d3 d4 d5 g0 g1 g2 g3 g4 g5
   go_region_law
    (refine iY _ rfl _ _ 23 rfl w0.heap.size 54 ir _ 6 88 Tryz.underlying23 uX hr1 hr2 hr3 rfl (by decide) (.slice yN aD.length yO) aD.length (aD.flatMap six) rfl (by repeat (first | exact qY.out.tk.row | refine World.ownsRow.alloc ?_ _ | refine bX ?_)) _ 1 _ rfl (by first | exact bE rfl (by simp) | exact qD (bE rfl (by simp))) rfl (by simp [Value.oneCell']) (by unfold maxLen; omega) (by omega) (by simp; omega) ?_; intro v8 w9 aI fu dP bF; obtain ⟨o7, c7, rfl⟩ := au aI
     have iy:=(bF.block p hp0).trans (aB (by repeat (first|exact Below.refl _ _|refine Below.drew ?_|refine ah ?_ _)) HI.out.1.x.hh)
     obtain⟨⟨z0,z1,z2,z3,z4,z5,z6⟩,y0,y1,y2,y3,y4,y5,y6⟩:=aM iy)
   all_goals (
    have hq : KP (fun j => XB p rv ti ri j ∧ (Value.slice yN aD.length yO).ownBlock ≠ some j) W9 (fun w' => bI w' t.re (.slice o8 t.re.set.length q8) (.slice o9 t.re.parts.length q9)) :=
     HI.out.2.sub (fun j _ hj=>⟨⟨by omega,fun e=>by have:=(aU.out.ru.row.lt j e).2;omega,fun e=>by have:=(aU.out.it.lt j e).2;omega,fun e=>by have:=(aU.out.ir.lt j e).2;omega⟩,fun e=>by have:=(aU.out.tk.row.lt j e).2;omega⟩)
    have kM:=LI.EK HX0.out qY.out (q:=(t,.slice o8 t.re.set.length q8,.slice o9 t.re.parts.length q9)) (by repeat (first|exact Below.refl _ _|refine Below.drew ?_|refine ah ?_ _)) (by simpa only[six,HK.out.2] using aI) fu dP bF hq (by omega)
    clear z0 z1 z2 z3 z4 z5 z6 y0 y1 y2 y3 y4 y5 y6
    go_end0
    exact⟨rfl,_,_,_,kM⟩)
 · skip
   have HK:=Lib.hid (show V[k+2]? = some (1,sb ⟨#[114,101,116]⟩)∧t.kind=2 from⟨by have h9:=gK.out.w2;rw[hkd] at h9;exact h9,hkd⟩)
   clear hkd
   obtain⟨q2,hq2⟩:=hV.at H1.out.x.le
   have bG:=iV hV hq2 (kk:=1) (by decide) ⟨#[99,97,108,108]⟩
   rw[decide_eq_false (fun e=>by rw[HK.out.1] at e;revert e;decide)] at bG
   have gM:=Lib.hid hq2
   have HT2:=Lib.hid bG
   clear hq2 bG
   refine(aH 1 ⟨#[99,97,108,108]⟩ _).mono ?_
   rintro x lQ ⟨b12,iQ,rfl,hbx,hbt⟩
   have aF:=Lib.hid (And.intro (H1.out.x.moved hbt) (And.intro hbx hbt))
   clear hbx hbt
   go_wp2_with fail
   refine(bV p (k+2) 0 U wv tv rv ti ri 1 ⟨#[99,97,108,108]⟩ b12 iQ q2 _ (by decide) aF.out.1 gM.out aF.out.2.1 ?_ ?_).mono ?_
   · intro e;have h1:=aF.out.1.hh;rw[←e,aF.out.2.1.h1] at h1;cases h1
   · intro e;have h1:=aF.out.1.hh;rw[←e,aF.out.2.1.h2] at h1;cases h1
   rintro x w2 ⟨rfl,hc2,hx2⟩
   replace hc2:=(Ch.of (p:=p) aF.out.2.2).trans hc2
   rw[HT2.out] at hx2 ⊢
   rw[if_neg (by decide)] at hx2
   have hi2:=H1.out.to hc2 hx2 htp
   clear hx2 hc2
   have H2:=Lib.hid hi2
   clear hi2
   go_wp2_with fail
   obtain⟨q3,hq3⟩:=hV.at H2.out.x.le
   have gJ:=iV hV hq3 (kk:=1) (by decide) ⟨#[114,101,116]⟩
   rw[decide_eq_true HK.out.1] at gJ
   have jJ:=Lib.hid hq3
   have HT3:=Lib.hid gJ
   clear hq3 gJ
   refine(aH 1 ⟨#[114,101,116]⟩ _).mono ?_
   rintro x vg ⟨b13,kD,rfl,hbx,hbt⟩
   have bL:=Lib.hid (And.intro (H2.out.x.moved hbt) (And.intro hbx hbt))
   clear hbx hbt
   go_wp2_with fail
   refine(bV p (k+2) 0 U wv tv rv ti ri 1 ⟨#[114,101,116]⟩ b13 kD q3 _ (by decide) bL.out.1 jJ.out bL.out.2.1 ?_ ?_).mono ?_
   · intro e;have h1:=bL.out.1.hh;rw[←e,bL.out.2.1.h1] at h1;cases h1
   · intro e;have h1:=bL.out.1.hh;rw[←e,bL.out.2.1.h2] at h1;cases h1
   rintro x w3 ⟨rfl,hc3,hx3⟩
   replace hc3:=(Ch.of (p:=p) bL.out.2.2).trans hc3
   rw[HT3.out] at hx3 ⊢
   rw[if_pos rfl] at hx3
   have hi3:=H2.out.to hc3 hx3 htp
   clear hx3 hc3
   obtain⟨⟨d0,d1,d2,d3,d4,d5⟩,g0,g1,g2,g3,g4,g5⟩:=dH hi3.ht
   obtain⟨W4,eT⟩:∃W4,W4=w3.setCell ⟨tb,1,none⟩ (.int .i64 2):=⟨_,rfl⟩
   have hi4:=hi3.set1 HX.out (.int .i64 2) hwt
   rw[←eT] at hi4
   have H4:=Lib.hid hi4
   have Hg:=Lib.hid eT
   clear hi3 hi4 eT
   go_wp2_with (with_reducible rw[←Hg.out])
   clear d0 d1 d2 d3 d4 d5 g0 g1 g2 g3 g4 g5
   refine(pY p (k+3) 0 U V hV wv tv rv ti ri t.cls _ H4.out.x gK.out.w3 gK.out.cl).mono ?_
   rintro x w5 ⟨rfl,aK,hx5⟩
   have hi5:=H4.out.to aK hx5 htp
   obtain⟨⟨d0,d1,d2,d3,d4,d5⟩,g0,g1,g2,g3,g4,g5⟩:=dH hi5.ht
   obtain⟨W5,bT⟩:∃W5,W5=w5.setCell ⟨tb,2,none⟩ (.int .i64 t.cls):=⟨_,rfl⟩
   have jh:=hi5.set2 HX.out (.int .i64 t.cls) hwt
   rw[←bT] at jh
   have H5:=Lib.hid jh
   have Cj:=Lib.hid bT
   obtain⟨q6,eB⟩:=hV.at jh.x.le
   have y7:tst 3 ⟨#[61]⟩ q6=true:=by rw[cZ hV eB 61];exact decide_eq_true gK.out.w4
   have nN:=Lib.hid eB
   have Iw:=Lib.hid y7
   clear hi5 jh aK hx5 bT eB y7
   go_wp2_with (with_reducible rw[←Cj.out])
   clear d0 d1 d2 d3 d4 d5 g0 g1 g2 g3 g4 g5
   refine(aH 3 ⟨#[61]⟩ _).mono ?_
   rintro x RA ⟨b16,Ck,rfl,hbx,hbt⟩
   have gN:=Lib.hid (And.intro (H5.out.x.moved hbt) (And.intro hbx hbt))
   clear hbx hbt
   go_wp2_with fail
   refine(kL p (k+4) 0 U wv tv rv ti ri 3 ⟨#[61]⟩ b16 Ck q6 _ (by decide) gN.out.1 nN.out gN.out.2.1 ?_ ?_ Iw.out).mono ?_
   · intro e;have h1:=gN.out.1.hh;rw[←e,gN.out.2.1.h1] at h1;cases h1
   · intro e;have h1:=gN.out.1.hh;rw[←e,gN.out.2.1.h2] at h1;cases h1
   rintro x w6 ⟨rfl,hc6,hx6⟩
   replace hc6:=(Ch.of (p:=p) gN.out.2.2).trans hc6
   have fU:=H5.out.to hc6 hx6 htp
   obtain⟨⟨ek,eb,en⟩,uh⟩:=hV.at fU.x.le
   obtain⟨e1,e2⟩:=jM hV uh gK.out.w5
   dsimp only at e1 e2
   obtain rfl:(4:Int)=ek:=e1.symm
   have N8:=Lib.hid e2
   have H6:=Lib.hid fU
   have zP:=Lib.hid uh
   have Iy:=Lib.hid (show iU 4 ((4:Int),eb,en)=true from rfl)
   clear fU hc6 hx6 uh e1 e2
   go_wp2_with fail
   refine(dO 4 _).mono ?_
   rintro x RB ⟨b17,rfl,hbx,hbt⟩
   have oI:=Lib.hid (And.intro (H6.out.x.moved hbt) (And.intro hbx hbt))
   clear hbx hbt
   go_wp2_with fail
   refine(rz p (k+5) 0 U wv tv rv ti ri 4 b17 ((4:Int),eb,en) _ (by decide) oI.out.1 zP.out oI.out.2.1 Iy.out).mono ?_
   rintro x w7 ⟨rfl,eF,hx7⟩
   replace eF:=(Ch.of (p:=p) oI.out.2.2).trans eF
   have hbel:=ah (Below.refl w7.heap.size w7) (.cells #[.int .i64 4,.string eb,.int .i64 en] 72)
   have lY:=(H6.out.to eF hx7 htp).to (Ch.of hbel) ((H6.out.to eF hx7 htp).x.moved hbel) htp
   have hge:=heap_alloc_new w7 (.cells #[.int .i64 4,.string eb,.int .i64 en] 72)
   obtain⟨W7,lH⟩:∃W7,W7=w7.alloc (.cells #[.int .i64 4,.string eb,.int .i64 en] 72):=⟨_,rfl⟩
   rw[←lH] at lY hge
   obtain⟨⟨u0,u1,u2⟩,m0,m1,m2⟩:=ay hge
   have Ll:tb<W7.heap.size:=lt_of_some lY.ht
   have H7:=Lib.hid lY
   have Cm:=Lib.hid lH
   clear hbel lY hge eF hx7 lH
   go_wp2_with (with_reducible rw[←Cm.out])
   rw[N8.out]
   refine(oN.out _).mono ?_
   rintro x w8 ⟨Wz,WA,rfl,qh,gF⟩
   obtain⟨⟨o8,q8,rfl⟩,⟨o9,q9,rfl⟩⟩:=qh.here.form
   have nO:=H7.out.to (Ch.of gF) (H7.out.x.moved gF) htp
   have hbr:=ah (Below.refl w8.heap.size w8) (.cells #[.int .i64 t.re.kind,.slice o8 t.re.set.length q8,.slice o9 t.re.parts.length q9] 35)
   have hi9:=nO.to (Ch.of hbr) (nO.x.moved hbr) htp
   have hgr:=heap_alloc_new w8 (.cells #[.int .i64 t.re.kind,.slice o8 t.re.set.length q8,.slice o9 t.re.parts.length q9] 35)
   obtain⟨W8,dG⟩:∃W8,W8=w8.alloc (.cells #[.int .i64 t.re.kind,.slice o8 t.re.set.length q8,.slice o9 t.re.parts.length q9] 35):=⟨_,rfl⟩
   have jC:=qh.to (Ag.of hbr)
   rw[←dG] at hi9 hgr jC
   obtain⟨rb,hrb⟩:∃rb,rb=w8.heap.size:=⟨_,rfl⟩
   have WB:W7.heap.size≤w8.heap.size:=gF.size
   have htr:¬tb=rb:=by omega
   have Qd:¬rb=tb:=by omega
   rw[←hrb] at hgr
   obtain⟨⟨a0,a1,a2⟩,b0,b1,b2⟩:=ay hgr
   obtain⟨⟨d0,d1,d2,d3,d4,d5⟩,g0,g1,g2,g3,g4,g5⟩:=dH hi9.ht
   obtain⟨W9,bP⟩:∃W9,W9=((W8.setCell ⟨tb,3,none⟩ (.int .i64 t.re.kind)).setCell ⟨tb,4,none⟩ (.slice o8 t.re.set.length q8)).setCell ⟨tb,5,none⟩ (.slice o9 t.re.parts.length q9):=⟨_,rfl⟩
   have hi9':=hi9.Cn HX.out (.int .i64 t.re.kind) (.slice o8 t.re.set.length q8) (.slice o9 t.re.parts.length q9) hwt
   rw[←bP] at hi9'
   have Qe:w.heap.size≤W7.heap.size:=H7.out.c.size
   have uj : KP (fun j => w.heap.size ≤ j ∧ j ≠ tb) W9 (fun w' => bI w' t.re (.slice o8 t.re.set.length q8) (.slice o9 t.re.parts.length q9)) := by
    rw[bP]
    exact(jC.sub (fun j _ hj=>(⟨by have h2:W7.heap.size≤j:=hj;omega,by have h2:W7.heap.size≤j:=hj;omega⟩:w.heap.size≤j∧j≠tb))).to ((((Ag.refl _ _).setCell (fun h=>h.2 rfl) _).setCell (fun h=>h.2 rfl) _).setCell (fun h=>h.2 rfl) _)
   have vI:=Lib.hid dG
   have uf:=Lib.hid bP
   have Ht:=Lib.hid hrb
   have HI:=Lib.hid (And.intro hi9' uj)
   clear nO hi9 hi9' hbr hgr qh jC uj gF dG bP hrb u0 u1 u2 m0 m1 m2
   obtain⟨yN,yO,yI⟩:=Kc.out
   subst yI
   have aC:=aU.out.ch hp0 HI.out.1.c HI.out.1.x (by omega)
   obtain⟨⟨c0,c1,c2,c3,Nz,c5,c6⟩,f0,f1,f2,f3,f4,f5,f6⟩:=aM HI.out.1.x.hh
   obtain⟨⟨v0,v1,v2,v3,v4,v5⟩,l0,l1,l2,l3,l4,l5⟩:=dH HI.out.1.ht
   have qY:=Lib.hid aC
   have uS:w0.heap.size≤W9.heap.size:=aC.c.size
   have Qf:=aU.out.n1
   have hsm:=aC.x.small
   have hpk:=aC.x.le
   have hpz:p<W9.heap.size:=lt_of_some HI.out.1.x.hh
   have hrz:tb<W9.heap.size:=lt_of_some HI.out.1.ht
   have hpn:¬p=W9.heap.size:=by omega
   have hrn:¬tb=W9.heap.size:=by omega
   have uT:¬W9.heap.size=p:=by omega
   have He:¬W9.heap.size=tb:=by omega
   clear aC
   go_wp2_with (first|(with_reducible rw[←vI.out];simp only[←Ht.out])|(with_reducible rw[←uf.out]))
   clear a0 a1 a2 b0 b1 b2 d0 d1 d2 d3 d4 d5 g0 g1 g2 g3 g4 g5
   go_region_law
    (refine iY _ rfl _ _ 23 rfl w0.heap.size 54 ir _ 6 88 Tryz.underlying23 uX hr1 hr2 hr3 rfl (by decide) (.slice yN aD.length yO) aD.length (aD.flatMap six) rfl (by repeat (first | exact qY.out.tk.row | refine World.ownsRow.alloc ?_ _ | refine bX ?_)) _ 1 _ rfl (by first | exact bE rfl (by simp) | exact qD (bE rfl (by simp))) rfl (by simp [Value.oneCell']) (by unfold maxLen; omega) (by omega) (by simp; omega) ?_; intro v8 w9 aI fu dP bF; obtain ⟨o7, c7, rfl⟩ := au aI
     have iy:=(bF.block p hp0).trans (aB (by repeat (first|exact Below.refl _ _|refine Below.drew ?_|refine ah ?_ _)) HI.out.1.x.hh)
     obtain⟨⟨z0,z1,z2,z3,z4,z5,z6⟩,y0,y1,y2,y3,y4,y5,y6⟩:=aM iy)
   all_goals (
    have hq : KP (fun j => XB p rv ti ri j ∧ (Value.slice yN aD.length yO).ownBlock ≠ some j) W9 (fun w' => bI w' t.re (.slice o8 t.re.set.length q8) (.slice o9 t.re.parts.length q9)) :=
     HI.out.2.sub (fun j _ hj=>⟨⟨by omega,fun e=>by have:=(aU.out.ru.row.lt j e).2;omega,fun e=>by have:=(aU.out.it.lt j e).2;omega,fun e=>by have:=(aU.out.ir.lt j e).2;omega⟩,fun e=>by have:=(aU.out.tk.row.lt j e).2;omega⟩)
    have kM:=LI.EK HX0.out qY.out (q:=(t,.slice o8 t.re.set.length q8,.slice o9 t.re.parts.length q9)) (by repeat (first|exact Below.refl _ _|refine Below.drew ?_|refine ah ?_ _)) (by simpa only[six,HK.out.2] using aI) fu dP bF hq (by omega)
    clear z0 z1 z2 z3 z4 z5 z6 y0 y1 y2 y3 y4 y5 y6
    go_end0
    exact⟨rfl,_,_,_,kM⟩)
end Go.Proofs.YtfkmajjgkdjncaaGreatDoor
