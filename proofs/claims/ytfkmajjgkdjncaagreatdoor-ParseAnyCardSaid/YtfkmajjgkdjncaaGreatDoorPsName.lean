/- Merged. -/
import Derived.Test.YtfkmajjgkdjncaaGreatDoorPaTwo
import Derived.Test.YtfkmajjgkdjncaaGreatDoorGOwn
import Derived.Test.YtfkmajjgkdjncaaGreatDoorPmPar
set_option linter.unusedVariables false
set_option linter.unusedSimpArgs false
set_option maxHeartbeats 4000000
set_option maxRecDepth 100000
namespace Go.Proofs.YtfkmajjgkdjncaaGreatDoor
open Go.RowKit De Wd
abbrev Uw:=Int×ByteArray×Nat
def u3 (q:Uw):List Value:=[.int .i64 q.1,.string q.2.1,.int .i64 q.2.2]
structure PI (w:World) (p:Nat) (U:List Uw) (k d:Nat) (wv tv rv ti ri:Value):Prop where
 hh:w.heap[p]? = some (.cells #[wv,.int .i64 k,.int .i64 d,tv,rv,ti,ri] 74 (0,0))
 row:Row w wv U.length (U.flatMap u3)
 far:∀b off cap,wv=.slice (some ⟨b,off,none⟩) U.length cap→b≠p
 le:k<U.length
 small:U.length≤1000000
 last:∀j q,U[j]? = some q→q.1≠0→j+1<U.length
section
variable {w w':World} {p k d k' d':Nat} {U:List Uw} {wv tv rv ti ri:Value}
theorem PI.lt (h:PI w p U k d wv tv rv ti ri):p<w.heap.size:=lt_of_some h.hh
theorem PI.moved (h:PI w p U k d wv tv rv ti ri) (hb:Below w.heap.size w w'):PI w' p U k d wv tv rv ti ri:=
 ⟨by rw[hb.block p h.lt];exact h.hh,h.row.below hb,h.far,h.le,h.small,h.last⟩
theorem uy {w:World} {v:Value} {n:Nat} {cs:List Value} {E i:Nat} {x:Value} (h:Row w v n cs) (hE:∀b off cap,v=.slice (some ⟨b,off,none⟩) n cap→b≠E):Row (w.setCell ⟨E,i,none⟩ x) v n cs:=by
 obtain⟨o,cap,rfl,h1,h2,h3⟩:=h
 refine⟨o,cap,rfl,h1,h2,?_⟩
 rcases h3 with h3|⟨b,off,rfl,hb,hc⟩
 · exact .inl h3
 · refine .inr ⟨b, off, rfl, by simpa [World.setCell] using hb, fun j u hu => ?_⟩
   rw[←hc j u hu]
   unfold World.cell?
   rw[Below.heap_setCell _ _ _ _ (by simpa using hE b off cap rfl)]
theorem PI.at (h : PI w p U k d wv tv rv ti ri) (hk : k' < U.length) : PI (w.setCell ⟨p, 1, none⟩ (.int .i64 k')) p U k' d wv tv rv ti ri :=
 ⟨by have:=h.hh;simp[World.setCell,Array.getElem?_modify,this],uy h.row h.far,h.far,hk,h.small,h.last⟩
theorem PI.deep (h:PI w p U k d wv tv rv ti ri):PI (w.setCell ⟨p,2,none⟩ (.int .i64 d')) p U k d' wv tv rv ti ri:=
 ⟨by have:=h.hh;simp[World.setCell,Array.getElem?_modify,this],uy h.row h.far,h.far,h.le,h.small,h.last⟩
theorem PI.aL {E i k0 d0:Nat} {x dz dA dB dD:Value} (h0:PI w p U k0 d0 wv dz dA dB dD) (h:PI w' p U k d wv tv rv ti ri) (hE:w.heap.size≤E):PI (w'.setCell ⟨E,i,none⟩ x) p U k d wv tv rv ti ri:=by
 have hp:=h0.lt
 refine⟨?_,uy h.row (fun b off cap e=>?_),h.far,h.le,h.small,h.last⟩
 · rw[Below.heap_setCell _ _ _ _ (by simp;omega)];exact h.hh
 · obtain ⟨o', cap', e', _, _, h3'⟩ := h0.row
   rw[e] at e'
   simp only[Value.slice.injEq,true_and] at e'
   obtain⟨rfl,rfl⟩:=e'
   rcases h3' with h3'|⟨b',off',e',hb',_⟩
   · have:=h0.le;omega
   · simp only [Option.some.injEq, Addr.mk.injEq, and_true] at e'
     omega
theorem Tp {U:List Uw} {k j:Nat} {q:Uw} (h:U[k]? = some q) (hj:j<3):(U.flatMap u3)[k*3+j]? = (u3 q)[j]?:=yA u3 3 (fun _=>rfl) U k j q h hj
theorem PI.word (h:PI w p U k d wv tv rv ti ri) {q:Uw} (hq:U[k]? = some q) :
 ∃b off cap,wv=.slice (some ⟨b,off,none⟩) U.length cap∧b<w.heap.size∧w.cell? ⟨b,off+k*3,none⟩=some (.int .i64 q.1)∧w.cell? ⟨b,off+k*3+1,none⟩=some (.string q.2.1)∧w.cell? ⟨b,off+k*3+2,none⟩=some (.int .i64 q.2.2):=by
 obtain⟨o,cap,rfl,h1,h2,h3⟩:=h.row
 have hle:=h.le
 rcases h3 with⟨h0,_⟩|⟨b,off,rfl,hb,hc⟩
 · omega
 have g:=fun j hj=>Tp (j:=j) hq hj
 refine⟨b,off,cap,rfl,hb,?_,?_,?_⟩
 · have:=hc (k*3+0) (.int .i64 q.1) (by rw[g 0 (by omega)];rfl);simpa [Nat.add_assoc] using this
 · have:=hc (k*3+1) (.string q.2.1) (by rw[g 1 (by omega)];rfl);simpa [Nat.add_assoc] using this
 · have:=hc (k*3+2) (.int .i64 q.2.2) (by rw[g 2 (by omega)];rfl);simpa [Nat.add_assoc] using this
theorem aM {w:World} {p:Nat} {a b c d e f g:Value} {t:TypeId} (h:w.heap[p]? = some (.cells #[a,b,c,d,e,f,g] t (0,0))) :
 (w.cell? ⟨p,0,none⟩=some a∧w.cell? ⟨p,1,none⟩=some b∧w.cell? ⟨p,2,none⟩=some c∧w.cell? ⟨p,3,none⟩=some d∧w.cell? ⟨p,4,none⟩=some e∧w.cell? ⟨p,5,none⟩=some f∧w.cell? ⟨p,6,none⟩=some g) ∧
 w.frozen? ⟨p,0,none⟩=false∧w.frozen? ⟨p,1,none⟩=false∧w.frozen? ⟨p,2,none⟩=false∧w.frozen? ⟨p,3,none⟩=false∧w.frozen? ⟨p,4,none⟩=false∧w.frozen? ⟨p,5,none⟩=false∧w.frozen? ⟨p,6,none⟩=false:=by
 simp[World.cell?,World.frozen?,h]
end
abbrev iZ (q:Uw):Value:=.agg #[.int .i64 q.1,.string q.2.1,.int .i64 q.2.2]
theorem bD (p k d:Nat) (U:List Uw) (wv tv rv ti ri:Value) (q:Uw) (w:World) (h:PI w p U k d wv tv rv ti ri) (hq:U[k]? = some q) :
 Calls Tryz.prog 22 #[.pointer (some ⟨p,0,none⟩)] w fun x w'=>x=.returned (iZ q)∧Below w.heap.size w w':=by
 obtain⟨⟨c0,c1,c2,c3,c4,c5,c6⟩,f0,f1,f2,f3,f4,f5,f6⟩:=aM h.hh
 obtain⟨b,off,cap,rfl,hb,a0,a1,a2⟩:=h.word hq
 have hlt:=h.lt
 have hle:=h.le
 have hsm:=h.small
 have hk0:(0:Int)≤(k:Int):=by omega
 have hk1:(k:Int)<(U.length:Int):=by omega
 have n1:¬p=w.heap.size:=by omega
 have n2:¬b=w.heap.size:=by omega
 clear h hq
 go_enter Tryz.func22,Tryz.ntmps22
 go_wp2_with fail
 go_region_law (first|(fail))
 all_goals (
  go_wp2_with fail
  refine bodyPost_ret (v:=iZ q) (by simp[results,Tryz.results22,go_sem]) rfl ⟨rfl,(ah (Below.refl _ _) _).drew⟩)
end Go.Proofs.YtfkmajjgkdjncaaGreatDoor

set_option maxHeartbeats 2000000
set_option maxRecDepth 100000
namespace Go.Proofs.YtfkmajjgkdjncaaGreatDoor
open Go.RowKit De Wd
def tst (k:Int) (s:ByteArray) (q:Uw):Bool:=(q.1 == k) && (q.2.1.toList == s.toList)
structure Bx (w:World) (b1 b2:Nat) (k:Int) (s:ByteArray):Prop where
 h1:w.heap[b1]? = some (.cells #[.int .i64 k] 3 (0,0))
 h2:w.heap[b2]? = some (.cells #[.string s] 9 (0,0))
theorem Bx.moved {w w':World} {b1 b2:Nat} {k:Int} {s:ByteArray} (h:Bx w b1 b2 k s) (hb:Below w.heap.size w w'):Bx w' b1 b2 k s:=
 ⟨by rw[hb.block _ (lt_of_some h.h1)];exact h.h1,by rw[hb.block _ (lt_of_some h.h2)];exact h.h2⟩
theorem aH (k:Int) (s:ByteArray) (w:World) :
 Calls Tryz.prog 55 #[.int .i64 k,.string s] w fun x w'=>∃b1 b2,x=.returned (.func (Fn.func 90) #[] #[.pointer (some ⟨b1,0,none⟩),.pointer (some ⟨b2,0,none⟩)])∧Bx w' b1 b2 k s∧Below w.heap.size w w':=by
 have ng:∀(fn:Fn) (first cap:Array Value) (w:World),(Instr.makeFunc fn first cap).run Tryz.prog w=.ok (.func fn first cap) w:=fun _ _ _ _=>rfl
 go_enter Tryz.func55,Tryz.ntmps55
 go_wp2_with fail
 go_ret
 refine⟨w.heap.size,w.heap.size+1,rfl,⟨?_,?_⟩,ah (ah (Below.refl _ _) _) _⟩
 · exact aB (w:=w.alloc _) (ah (Below.refl _ _) _) (heap_alloc_new w _)
 · have h := heap_alloc_new (w.alloc (.cells #[.int .i64 k] 3)) (.cells #[.string s] 9)
   simpa using h
theorem El (b1 b2:Nat) (k:Int) (s:ByteArray) (q:Uw) (w:World) (h:Bx w b1 b2 k s) :
 Calls Tryz.prog 90 #[iZ q,.pointer (some ⟨b1,0,none⟩),.pointer (some ⟨b2,0,none⟩)] w fun x w'=>x=.returned (.bool (tst k s q))∧Below w.heap.size w w':=by
 obtain⟨c1,f1⟩:=aj h.h1
 obtain⟨c2,f2⟩:=aj h.h2
 have l1:=lt_of_some h.h1
 have l2:=lt_of_some h.h2
 have n1:¬b1=w.heap.size:=by omega
 have n2:¬b2=w.heap.size:=by omega
 have HT:Hid (tst k s q=((q.1 == k) && (q.2.1.toList == s.toList))):=Lib.hid rfl
 cases hk:(q.1 == k) with
 | false =>
  clear h
  go_enter Tryz.func90,Tryz.ntmps90
  go_wp2_with fail
  go_ret
  exact⟨by rw[HT.out,hk];rfl,ah (Below.refl _ _) _⟩
 | true =>
  clear h
  go_enter Tryz.func90,Tryz.ntmps90
  go_wp2_with fail
  go_ret
  exact⟨by rw[HT.out,hk];rfl,ah (Below.refl _ _) _⟩
def iU (k:Int) (q:Uw):Bool:=q.1 == k
theorem dO (k:Int) (w:World) :
 Calls Tryz.prog 54 #[.int .i64 k] w fun x w'=>∃b1,x=.returned (.func (Fn.func 89) #[] #[.pointer (some ⟨b1,0,none⟩)])∧w'.heap[b1]? = some (.cells #[.int .i64 k] 3 (0,0))∧Below w.heap.size w w':=by
 have ng:∀(fn:Fn) (first cap:Array Value) (w:World),(Instr.makeFunc fn first cap).run Tryz.prog w=.ok (.func fn first cap) w:=fun _ _ _ _=>rfl
 go_enter Tryz.func54,Tryz.ntmps54
 go_wp2_with fail
 go_ret
 exact⟨w.heap.size,rfl,heap_alloc_new w _,ah (Below.refl _ _) _⟩
theorem NK (b1:Nat) (k:Int) (q:Uw) (w:World) (h:w.heap[b1]? = some (.cells #[.int .i64 k] 3 (0,0))) :
 Calls Tryz.prog 89 #[iZ q,.pointer (some ⟨b1,0,none⟩)] w fun x w'=>x=.returned (.bool (iU k q))∧Below w.heap.size w w':=by
 obtain⟨c1,f1⟩:=aj h
 have l1:=lt_of_some h
 have n1:¬b1=w.heap.size:=by omega
 have HT:Hid (iU k q=(q.1 == k)):=Lib.hid rfl
 clear h
 go_enter Tryz.func89,Tryz.ntmps89
 go_wp2_with fail
 go_ret
 exact⟨by rw[HT.out];rfl,ah (Below.refl _ _) _⟩
theorem WM {k:Int} {s:ByteArray} {q:Uw} (hk:k≠0) (h:tst k s q=true):q.1≠0:=by
 unfold tst at h;simp at h;omega
theorem WO {k:Int} {q:Uw} (hk:k≠0) (h:iU k q=true):q.1≠0:=by
 unfold iU at h;simp at h;omega
theorem bV (p k d:Nat) (U:List Uw) (wv tv rv ti ri:Value) (kk:Int) (s:ByteArray) (b1 b2:Nat) (q:Uw) (w:World) (hk:kk≠0) (h:PI w p U k d wv tv rv ti ri) (hq:U[k]? = some q) (hb:Bx w b1 b2 kk s) (hb1:b1≠p) (hb2:b2≠p) :
 Calls Tryz.prog 53 #[.pointer (some ⟨p,0,none⟩),.func (Fn.func 90) #[] #[.pointer (some ⟨b1,0,none⟩),.pointer (some ⟨b2,0,none⟩)]] w fun x w'=>x=.returned (.bool (tst kk s q))∧Ch w w' p∧PI w' p U (if tst kk s q=true then k+1 else k) d wv tv rv ti ri:=by
 have hpk:=bD p k d U wv tv rv ti ri q w h hq
 have hlast:=fun (ht:tst kk s q=true)=>h.last k q hq (WM hk ht)
 have hsm:=h.small
 have hlt:=h.lt
 have hkb:(k:Int)≤1000000:=by have:=h.le;omega
 have HP:=Lib.hid hpk
 have HH:=Lib.hid h
 have HB:=Lib.hid hb
 have HL:=Lib.hid hlast
 clear hpk h hb hlast
 obtain⟨bt,hbt⟩:∃bt,bt=tst kk s q:=⟨_,rfl⟩
 have oV:=Lib.hid hbt
 rw[←hbt]
 clear hbt
 go_enter Tryz.func53,Tryz.ntmps53
 go_wp2_with fail
 refine HP.out.mono ?_
 rintro x w1 ⟨rfl,hb1'⟩
 have H1:=Lib.hid (And.intro (HH.out.moved hb1') (HB.out.moved hb1'))
 have HB1:=Lib.hid hb1'
 clear hb1'
 go_wp2_with fail
 refine(El b1 b2 kk s q _ H1.out.2).mono ?_
 rintro x w2 ⟨rfl,hb2'⟩
 rw[←oV.out]
 have H2:=Lib.hid (H1.out.1.moved hb2')
 have HB2:=Lib.hid (ak HB1.out hb2')
 obtain⟨⟨c0,c1,c2,c3,c4,c5,c6⟩,f0,f1,f2,f3,f4,f5,f6⟩:=aM H2.out.hh
 have hk0:(0:Int)≤(k:Int):=by omega
 clear hb2'
 cases bt with
 | true =>
  go_wp2_with fail
  have ecast:(k:Int)+1=((k+1:Nat):Int):=by omega
  simp only[ecast]
  go_ret
  exact⟨rfl,(Ch.of HB2.out).trans (Ch.set _ _ _ _),by first|exact H2.out.at (HL.out oV.out.symm)|(rw[if_pos rfl];exact H2.out.at (HL.out oV.out.symm))⟩
 | false =>
  go_wp2_with fail
  go_ret
  exact⟨rfl,Ch.of HB2.out,by first|exact H2.out|(rw[if_neg (by decide)];exact H2.out)⟩
theorem oO (p k d:Nat) (U:List Uw) (wv tv rv ti ri:Value) (kk:Int) (b1:Nat) (q:Uw) (w:World) (hk:kk≠0) (h:PI w p U k d wv tv rv ti ri) (hq:U[k]? = some q) (hb:w.heap[b1]? = some (.cells #[.int .i64 kk] 3 (0,0))) :
 Calls Tryz.prog 53 #[.pointer (some ⟨p,0,none⟩),.func (Fn.func 89) #[] #[.pointer (some ⟨b1,0,none⟩)]] w fun x w'=>x=.returned (.bool (iU kk q))∧Ch w w' p∧PI w' p U (if iU kk q=true then k+1 else k) d wv tv rv ti ri:=by
 have hpk:=bD p k d U wv tv rv ti ri q w h hq
 have hlast:=fun (ht:iU kk q=true)=>h.last k q hq (WO hk ht)
 have hsm:=h.small
 have hlt:=h.lt
 have hkb:(k:Int)≤1000000:=by have:=h.le;omega
 have HP:=Lib.hid hpk
 have HH:=Lib.hid h
 have HB:=Lib.hid hb
 have HL:=Lib.hid hlast
 clear hpk h hb hlast
 obtain⟨bt,hbt⟩:∃bt,bt=iU kk q:=⟨_,rfl⟩
 have oV:=Lib.hid hbt
 rw[←hbt]
 clear hbt
 go_enter Tryz.func53,Tryz.ntmps53
 go_wp2_with fail
 refine HP.out.mono ?_
 rintro x w1 ⟨rfl,hb1'⟩
 have H1:=Lib.hid (And.intro (HH.out.moved hb1') (aB hb1' HB.out))
 have HB1:=Lib.hid hb1'
 clear hb1'
 go_wp2_with fail
 refine(NK b1 kk q _ H1.out.2).mono ?_
 rintro x w2 ⟨rfl,hb2'⟩
 rw[←oV.out]
 have H2:=Lib.hid (H1.out.1.moved hb2')
 have HB2:=Lib.hid (ak HB1.out hb2')
 obtain⟨⟨c0,c1,c2,c3,c4,c5,c6⟩,f0,f1,f2,f3,f4,f5,f6⟩:=aM H2.out.hh
 have hk0:(0:Int)≤(k:Int):=by omega
 clear hb2'
 cases bt with
 | true =>
  go_wp2_with fail
  have ecast:(k:Int)+1=((k+1:Nat):Int):=by omega
  simp only[ecast]
  go_ret
  exact⟨rfl,(Ch.of HB2.out).trans (Ch.set _ _ _ _),by first|exact H2.out.at (HL.out oV.out.symm)|(rw[if_pos rfl];exact H2.out.at (HL.out oV.out.symm))⟩
 | false =>
  go_wp2_with fail
  go_ret
  exact⟨rfl,Ch.of HB2.out,by first|exact H2.out|(rw[if_neg (by decide)];exact H2.out)⟩
theorem kL (p k d:Nat) (U:List Uw) (wv tv rv ti ri:Value) (kk:Int) (s:ByteArray) (b1 b2:Nat) (q:Uw) (w:World) (hk:kk≠0) (h:PI w p U k d wv tv rv ti ri) (hq:U[k]? = some q) (hb:Bx w b1 b2 kk s) (hb1:b1≠p) (hb2:b2≠p) (ht:tst kk s q=true) :
 Calls Tryz.prog 57 #[.pointer (some ⟨p,0,none⟩),.func (Fn.func 90) #[] #[.pointer (some ⟨b1,0,none⟩),.pointer (some ⟨b2,0,none⟩)]] w fun x w'=>x=.returned (iZ q)∧Ch w w' p∧PI w' p U (k+1) d wv tv rv ti ri:=by
 have hlt:=h.lt
 have h0:=h
 have hA:=h.moved (ah (Below.refl _ _) (.cells #[.int .i64 0,.string ⟨#[]⟩,.int .i64 0] 72))
 obtain⟨W0,hW0⟩:∃W0,W0=w.alloc (.cells #[.int .i64 0,.string ⟨#[]⟩,.int .i64 0] 72):=⟨_,rfl⟩
 have hbW:Below w.heap.size w W0:=by rw[hW0];exact ah (Below.refl _ _) _
 have hr0:W0.heap[w.heap.size]? = some (.cells #[.int .i64 0,.string ⟨#[]⟩,.int .i64 0] 72 (0,0)):=by rw[hW0];exact heap_alloc_new w _
 rw[←hW0] at hA
 have hpk:=bD p k d U wv tv rv ti ri q W0 hA hq
 have HW0:=Lib.hid hW0
 have Hu:=Lib.hid hpk
 have HA:=Lib.hid (And.intro hA (And.intro hr0 (And.intro hbW (hb.moved hbW))))
 have H0:=Lib.hid h0
 have HQ:=Lib.hid hq
 have HT:=Lib.hid ht
 clear h h0 hA hW0 hpk hbW hr0 hb ht hq
 go_enter Tryz.func57,Tryz.ntmps57
 go_wp2_with (with_reducible rw[←HW0.out])
 refine Hu.out.mono ?_
 rintro x w1 ⟨rfl,hb1'⟩
 have hbx:Below w1.heap.size w1 (w1.alloc (.cells #[.int .i64 q.1,.string q.2.1,.int .i64 q.2.2] 72)):=ah (Below.refl _ _) _
 have je:=lt_of_some HA.out.2.1
 have H1:=Lib.hid (And.intro ((HA.out.1.moved hb1').moved hbx) (And.intro (aB hbx (aB hb1' HA.out.2.1)) (And.intro (ak HA.out.2.2.1 (ak hb1' hbx)) (And.intro ((HA.out.2.2.2.moved hb1').moved hbx) (heap_alloc_new w1 (.cells #[.int .i64 q.1,.string q.2.1,.int .i64 q.2.2] 72))))))
 have hz1:=hb1'.size
 clear hb1' hbx
 go_wp2_with fail
 refine(bV p k d U wv tv rv ti ri kk s b1 b2 q _ hk H1.out.1 HQ.out H1.out.2.2.2.1 hb1 hb2).mono ?_
 rintro x w2 ⟨rfl,hc2,hp2⟩
 rw[HT.out]
 rw[if_pos HT.out] at hp2
 have hg2:=(hc2.block _ (lt_of_some H1.out.2.2.2.2) (by omega)).trans H1.out.2.2.2.2
 have hr2:=(hc2.block _ (lt_of_some H1.out.2.1) (by omega)).trans H1.out.2.1
 obtain⟨⟨c0,c1,c2⟩,f0,f1,f2⟩:=ay hg2
 obtain⟨⟨d0,d1,d2⟩,g0,g1,g2⟩:=ay hr2
 have H2:=Lib.hid (And.intro hp2 (And.intro ((Ch.of H1.out.2.2.1).trans hc2) hr2))
 clear hp2 hc2 hg2 hr2
 go_wp2_with fail
 obtain⟨W9,bP⟩:∃W9,W9=((w2.setCell ⟨w.heap.size,0,none⟩ (.int .i64 q.1)).setCell ⟨w.heap.size,1,none⟩ (.string q.2.1)).setCell ⟨w.heap.size,2,none⟩ (.int .i64 q.2.2):=⟨_,rfl⟩
 rw[←bP]
 have iy:PI W9 p U (k+1) d wv tv rv ti ri:=by rw[bP];exact H0.out.aL (H0.out.aL (H0.out.aL H2.out.1 (Nat.le_refl _)) (Nat.le_refl _)) (Nat.le_refl _)
 have bZ:Ch w W9 p:=by rw[bP];exact((H2.out.2.1.aN (Nat.le_refl _)).aN (Nat.le_refl _)).aN (Nat.le_refl _)
 have gL:W9.heap[w.heap.size]? = some (.cells #[.int .i64 q.1,.string q.2.1,.int .i64 q.2.2] 72 (0,0)):=by
  rw[bP];have:=H2.out.2.2;simp[World.setCell,Array.getElem?_modify,this]
 clear bP c0 c1 c2 f0 f1 f2 d0 d1 d2 g0 g1 g2
 obtain⟨⟨d0,d1,d2⟩,g0,g1,g2⟩:=ay gL
 refine bodyPost_ret (v:=iZ q) (by simp[results,Tryz.results57,go_sem,d0,d1,d2,g0,g1,g2]) rfl ⟨rfl,bZ,iy⟩
theorem rz (p k d:Nat) (U:List Uw) (wv tv rv ti ri:Value) (kk:Int) (b1:Nat) (q:Uw) (w:World) (hk:kk≠0) (h:PI w p U k d wv tv rv ti ri) (hq:U[k]? = some q) (hb:w.heap[b1]? = some (.cells #[.int .i64 kk] 3 (0,0))) (ht:iU kk q=true) :
 Calls Tryz.prog 57 #[.pointer (some ⟨p,0,none⟩),.func (Fn.func 89) #[] #[.pointer (some ⟨b1,0,none⟩)]] w fun x w'=>x=.returned (iZ q)∧Ch w w' p∧PI w' p U (k+1) d wv tv rv ti ri:=by
 have hlt:=h.lt
 have h0:=h
 have hA:=h.moved (ah (Below.refl _ _) (.cells #[.int .i64 0,.string ⟨#[]⟩,.int .i64 0] 72))
 obtain⟨W0,hW0⟩:∃W0,W0=w.alloc (.cells #[.int .i64 0,.string ⟨#[]⟩,.int .i64 0] 72):=⟨_,rfl⟩
 have hbW:Below w.heap.size w W0:=by rw[hW0];exact ah (Below.refl _ _) _
 have hr0:W0.heap[w.heap.size]? = some (.cells #[.int .i64 0,.string ⟨#[]⟩,.int .i64 0] 72 (0,0)):=by rw[hW0];exact heap_alloc_new w _
 rw[←hW0] at hA
 have hpk:=bD p k d U wv tv rv ti ri q W0 hA hq
 have HW0:=Lib.hid hW0
 have Hu:=Lib.hid hpk
 have HA:=Lib.hid (And.intro hA (And.intro hr0 (And.intro hbW (aB hbW hb))))
 have H0:=Lib.hid h0
 have HQ:=Lib.hid hq
 have HT:=Lib.hid ht
 clear h h0 hA hW0 hpk hbW hr0 hb ht hq
 go_enter Tryz.func57,Tryz.ntmps57
 go_wp2_with (with_reducible rw[←HW0.out])
 refine Hu.out.mono ?_
 rintro x w1 ⟨rfl,hb1'⟩
 have hbx:Below w1.heap.size w1 (w1.alloc (.cells #[.int .i64 q.1,.string q.2.1,.int .i64 q.2.2] 72)):=ah (Below.refl _ _) _
 have je:=lt_of_some HA.out.2.1
 have H1:=Lib.hid (And.intro ((HA.out.1.moved hb1').moved hbx) (And.intro (aB hbx (aB hb1' HA.out.2.1)) (And.intro (ak HA.out.2.2.1 (ak hb1' hbx)) (And.intro (aB hbx (aB hb1' HA.out.2.2.2)) (heap_alloc_new w1 (.cells #[.int .i64 q.1,.string q.2.1,.int .i64 q.2.2] 72))))))
 have hz1:=hb1'.size
 clear hb1' hbx
 go_wp2_with fail
 refine(oO p k d U wv tv rv ti ri kk b1 q _ hk H1.out.1 HQ.out H1.out.2.2.2.1).mono ?_
 rintro x w2 ⟨rfl,hc2,hp2⟩
 rw[HT.out]
 rw[if_pos HT.out] at hp2
 have hg2:=(hc2.block _ (lt_of_some H1.out.2.2.2.2) (by omega)).trans H1.out.2.2.2.2
 have hr2:=(hc2.block _ (lt_of_some H1.out.2.1) (by omega)).trans H1.out.2.1
 obtain⟨⟨c0,c1,c2⟩,f0,f1,f2⟩:=ay hg2
 obtain⟨⟨d0,d1,d2⟩,g0,g1,g2⟩:=ay hr2
 have H2:=Lib.hid (And.intro hp2 (And.intro ((Ch.of H1.out.2.2.1).trans hc2) hr2))
 clear hp2 hc2 hg2 hr2
 go_wp2_with fail
 obtain⟨W9,bP⟩:∃W9,W9=((w2.setCell ⟨w.heap.size,0,none⟩ (.int .i64 q.1)).setCell ⟨w.heap.size,1,none⟩ (.string q.2.1)).setCell ⟨w.heap.size,2,none⟩ (.int .i64 q.2.2):=⟨_,rfl⟩
 rw[←bP]
 have iy:PI W9 p U (k+1) d wv tv rv ti ri:=by rw[bP];exact H0.out.aL (H0.out.aL (H0.out.aL H2.out.1 (Nat.le_refl _)) (Nat.le_refl _)) (Nat.le_refl _)
 have bZ:Ch w W9 p:=by rw[bP];exact((H2.out.2.1.aN (Nat.le_refl _)).aN (Nat.le_refl _)).aN (Nat.le_refl _)
 have gL:W9.heap[w.heap.size]? = some (.cells #[.int .i64 q.1,.string q.2.1,.int .i64 q.2.2] 72 (0,0)):=by
  rw[bP];have:=H2.out.2.2;simp[World.setCell,Array.getElem?_modify,this]
 clear bP c0 c1 c2 f0 f1 f2 d0 d1 d2 g0 g1 g2
 obtain⟨⟨d0,d1,d2⟩,g0,g1,g2⟩:=ay gL
 refine bodyPost_ret (v:=iZ q) (by simp[results,Tryz.results57,go_sem,d0,d1,d2,g0,g1,g2]) rfl ⟨rfl,bZ,iy⟩
theorem iD (p k d:Nat) (U:List Uw) (wv tv rv ti ri:Value) (s:ByteArray) (q:Uw) (w:World) (h:PI w p U k d wv tv rv ti ri) (hq:U[k]? = some q) :
 Calls Tryz.prog 93 #[.pointer (some ⟨p,0,none⟩),.string s] w fun x w'=>x=.returned (.bool (tst 3 s q))∧Below w.heap.size w w':=by
 have HH:=Lib.hid h
 have HQ:=Lib.hid hq
 clear h hq
 go_enter Tryz.func93,Tryz.ntmps93
 go_wp2_with fail
 refine(aH 3 s _).mono ?_
 rintro x w1 ⟨b1,b2,rfl,hbx,hb1⟩
 have H1:=Lib.hid (And.intro (HH.out.moved hb1) (And.intro hbx hb1))
 clear hbx hb1
 go_wp2_with fail
 refine(bD p k d U wv tv rv ti ri q _ H1.out.1 HQ.out).mono ?_
 rintro x w2 ⟨rfl,hb2⟩
 have H2:=Lib.hid (And.intro (H1.out.2.1.moved hb2) (ak H1.out.2.2 hb2))
 clear hb2
 go_wp2_with fail
 refine(El b1 b2 3 s q _ H2.out.1).mono ?_
 rintro x w3 ⟨rfl,hb3⟩
 have H3:=Lib.hid (ak H2.out.2 hb3)
 clear hb3
 go_wp2_with fail
 go_ret
 exact⟨rfl,H3.out⟩
end Go.Proofs.YtfkmajjgkdjncaaGreatDoor

set_option maxHeartbeats 2000000
set_option maxRecDepth 100000
namespace Go.Proofs.YtfkmajjgkdjncaaGreatDoor
open Go.RowKit De Wd
structure iq (V:Pm.Ws) (U:List Uw):Prop where
 len:U.length=V.length+1
 get:∀(k:Nat) (q:Uw),U[k]? = some q→k<V.length→V[k]? = some (q.1,sb q.2.1)
 fin:∀(q:Uw),U[V.length]? = some q→q.1=0
 pos:∀(k:Nat) (v:Int×List Int),V[k]? = some v→v.1≠0
theorem NM {s t:ByteArray} (h:sb s=sb t):s=t:=by
 have h2:s.data.toList=t.data.toList:=by
  unfold sb at h
  exact (List.map_inj_right (fun a b hab => by
   have:a.toNat=b.toNat:=by omega
   exact UInt8.toNat_inj.1 this)).1 h
 cases s;cases t
 simp at h2
 rw[h2]
theorem iV {V:Pm.Ws} {U:List Uw} (hV:iq V U) {k:Nat} {q:Uw} (hq:U[k]? = some q) {kk:Int} (hk:kk≠0) (s:ByteArray):tst kk s q=decide (V[k]? = some (kk,sb s)):=by
 have hlt:=(List.getElem?_eq_some_iff.1 hq).1
 have hl:=hV.len
 by_cases h1:k<V.length
 · rw [hV.get k q hq h1]
   unfold tst
   by_cases h2:q.1=kk
   · by_cases h3 : q.2.1 = s
     · rw [decide_eq_true (by rw [h2, h3])]
       simp[h2,h3]
     · rw [decide_eq_false (fun h => h3 (NM (by simp at h; exact h.2)))]
       have:(q.2.1.toList == s.toList)=false:=by
        rw[ByteArray.toList_eq,ByteArray.toList_eq]
        refine beq_eq_false_iff_ne.2 (fun h=>h3 ?_)
        obtain⟨a,⟨b⟩,c⟩:=q
        cases s
        simp at h
        simp[h]
       rw[this];simp
   · rw [decide_eq_false (fun h => h2 (by simp at h; exact h.1))]
     simp[h2]
 · have e : k = V.length := by omega
   subst e
   have h2:=hV.fin q hq
   rw[List.getElem?_eq_none (Nat.le_refl _),decide_eq_false (by simp)]
   unfold tst
   rw[h2]
   simp
   intro h;exact absurd h.symm hk
theorem RG {V:Pm.Ws} {U:List Uw} (hV:iq V U) {k:Nat} {q:Uw} (hq:U[k]? = some q) {kk:Int} (hk:kk≠0):iU kk q=decide (Pm.vk V k=kk):=by
 have hlt:=(List.getElem?_eq_some_iff.1 hq).1
 have hl:=hV.len
 unfold iU Pm.vk
 by_cases h1:k<V.length
 · rw [hV.get k q hq h1]
   by_cases h2:q.1=kk<;>simp[h2]
 · have e : k = V.length := by omega
   subst e
   have h2:=hV.fin q hq
   rw[List.getElem?_eq_none (Nat.le_refl _),h2]
   by_cases h3:(0:Int)=kk<;>simp[h3]
theorem cZ {V:Pm.Ws} {U:List Uw} (hV:iq V U) {k:Nat} {q:Uw} (hq:U[k]? = some q) (c:UInt8):tst 3 ⟨#[c]⟩ q=decide (Pm.sg V k (c.toNat:Int)):=by
 rw[iV hV hq (by decide)]
 rfl
theorem iq.at {V:Pm.Ws} {U:List Uw} (hV:iq V U) {k:Nat} (h:k<U.length):∃q,U[k]? = some q:=⟨U[k],List.getElem?_eq_getElem h⟩
theorem nS (p k d:Nat) (U:List Uw) (V:Pm.Ws) (hV:iq V U) (wv tv rv ti ri:Value) (w:World) (h:PI w p U k d wv tv rv ti ri) :
 Calls Tryz.prog 144 #[.pointer (some ⟨p,0,none⟩)] w fun x w'=>x=.returned (.bool (decide (Pm.jq V k)))∧Below w.heap.size w w':=by
 obtain⟨q,hq⟩:=hV.at h.le
 have hs:=fun (c:UInt8) w' (hb:Below w.heap.size w w')=>iD p k d U wv tv rv ti ri ⟨#[c]⟩ q w' (h.moved hb) hq
 have e1:=cZ hV hq 123
 have e2:=cZ hV hq 95
 have e3:=cZ hV hq 40
 have e4:=cZ hV hq 60
 have HE : Hid (decide (Pm.jq V k) = (tst 3 ⟨#[123]⟩ q || tst 3 ⟨#[95]⟩ q || tst 3 ⟨#[40]⟩ q || tst 3 ⟨#[60]⟩ q)) := Lib.hid (by
  rw[e1,e2,e3,e4]
  rw[Bool.eq_iff_iff]
  simp[Pm.jq,or_assoc]
  exact decide_eq_true_iff)
 have HS:=Lib.hid hs
 clear h hs e1 e2 e3 e4 hq
 cases t1:tst 3 ⟨#[123]⟩ q with
 | true =>
  go_enter Tryz.func144,Tryz.ntmps144
  go_wp2_with fail
  refine(HS.out 123 _ (Below.refl _ _)).mono ?_
  rintro x w1 ⟨rfl,hb1⟩
  have HB1:=Lib.hid hb1
  clear hb1
  rw[t1]
  go_wp2_with fail
  go_ret
  exact⟨by rw[HE.out,t1];rfl,HB1.out⟩
 | false =>
  cases t2:tst 3 ⟨#[95]⟩ q with
  | true =>
   go_enter Tryz.func144,Tryz.ntmps144
   go_wp2_with fail
   refine(HS.out 123 _ (Below.refl _ _)).mono ?_
   rintro x w1 ⟨rfl,hb1⟩
   have HB1:=Lib.hid hb1
   clear hb1
   rw[t1]
   go_wp2_with fail
   refine(HS.out 95 _ HB1.out).mono ?_
   rintro x w2 ⟨rfl,hb2⟩
   have HB2:=Lib.hid (ak HB1.out hb2)
   clear hb2
   rw[t2]
   go_wp2_with fail
   go_ret
   exact⟨by rw[HE.out,t1,t2];rfl,HB2.out⟩
  | false =>
   cases t3:tst 3 ⟨#[40]⟩ q with
   | true =>
    go_enter Tryz.func144,Tryz.ntmps144
    go_wp2_with fail
    refine(HS.out 123 _ (Below.refl _ _)).mono ?_
    rintro x w1 ⟨rfl,hb1⟩
    have HB1:=Lib.hid hb1
    clear hb1
    rw[t1]
    go_wp2_with fail
    refine(HS.out 95 _ HB1.out).mono ?_
    rintro x w2 ⟨rfl,hb2⟩
    have HB2:=Lib.hid (ak HB1.out hb2)
    clear hb2
    rw[t2]
    go_wp2_with fail
    refine(HS.out 40 _ HB2.out).mono ?_
    rintro x w3 ⟨rfl,hb3⟩
    have HB3:=Lib.hid (ak HB2.out hb3)
    clear hb3
    rw[t3]
    go_wp2_with fail
    go_ret
    exact⟨by rw[HE.out,t1,t2,t3];rfl,HB3.out⟩
   | false =>
    go_enter Tryz.func144,Tryz.ntmps144
    go_wp2_with fail
    refine(HS.out 123 _ (Below.refl _ _)).mono ?_
    rintro x w1 ⟨rfl,hb1⟩
    have HB1:=Lib.hid hb1
    clear hb1
    rw[t1]
    go_wp2_with fail
    refine(HS.out 95 _ HB1.out).mono ?_
    rintro x w2 ⟨rfl,hb2⟩
    have HB2:=Lib.hid (ak HB1.out hb2)
    clear hb2
    rw[t2]
    go_wp2_with fail
    refine(HS.out 40 _ HB2.out).mono ?_
    rintro x w3 ⟨rfl,hb3⟩
    have HB3:=Lib.hid (ak HB2.out hb3)
    clear hb3
    rw[t3]
    go_wp2_with fail
    refine(HS.out 60 _ HB3.out).mono ?_
    rintro x w4 ⟨rfl,hb4⟩
    have GA:=Lib.hid (ak HB3.out hb4)
    clear hb4
    go_wp2_with fail
    go_ret
    exact⟨by rw[HE.out,t1,t2,t3];simp,GA.out⟩
end Go.Proofs.YtfkmajjgkdjncaaGreatDoor

namespace Go.Proofs.YtfkmajjgkdjncaaGreatDoor
open Go.RowKit De Wd
def mR (w0 w':World) (e:PT) (x:Ending):Prop:=
 ∃nv ev lv,x=.returned (.agg #[.int .i64 e.kind,nv,ev,lv])∧KP (fun k=>w0.heap.size≤k) w' (fun w2=>bU w2 e nv ev lv)
theorem aS {w:World} {p:Nat} {a b c d:Value} {t:TypeId} (h:w.heap[p]? = some (.cells #[a,b,c,d] t (0,0))):(w.cell? ⟨p,0,none⟩=some a∧w.cell? ⟨p,1,none⟩=some b∧w.cell? ⟨p,2,none⟩=some c∧w.cell? ⟨p,3,none⟩=some d)∧w.frozen? ⟨p,0,none⟩=false∧w.frozen? ⟨p,1,none⟩=false∧w.frozen? ⟨p,2,none⟩=false∧w.frozen? ⟨p,3,none⟩=false:=by
 simp[World.cell?,World.frozen?,h]
theorem row_zero (w:World) (n:Nat) (cs:List Value) (h:n=0):Row w (.slice none 0 0) n cs:=by
 subst h;exact⟨none,0,rfl,by decide,by decide,.inl ⟨rfl,fun _=>rfl⟩⟩
theorem zo {w:World} {p:Nat} {x0 x1 x2 x3:Value} {t:TypeId} (a b c d:Value) (h:w.heap[p]? = some (.cells #[x0,x1,x2,x3] t (0,0))) :
 ((((w.setCell ⟨p,0,none⟩ a).setCell ⟨p,1,none⟩ b).setCell ⟨p,2,none⟩ c).setCell ⟨p,3,none⟩ d).heap[p]? = some (.cells #[a,b,c,d] t (0,0)):=by
 simp[World.setCell,Array.getElem?_modify,h]
structure QI (w wx:World) (p b r:Nat) (U:List Uw) (d k:Nat) (wv tv rv ti ri:Value) (a:PT) (nv ev lv:Value):Prop where
 x:PI wx p U k d wv tv rv ti ri
 c:Ch w wx p
 hb:wx.heap[b]? = some (.cells #[.int .i64 a.kind,nv,ev,lv] 58 (0,0))
 hr:∃c0 c1 c2 c3,wx.heap[r]? = some (.cells #[c0,c1,c2,c3] 58 (0,0))
 kp:KP (fun j=>r<j∧j≠b) wx (fun w2=>bU w2 a nv ev lv)
theorem uZ {w w3:World} {p r k0 d0 k d:Nat} {U:List Uw} {wv tv rv ti ri dz dA dB dD x0 x1 x2 x3 nv ev lv:Value} {e:PT} {S:Nat→Prop} (h0:PI w p U k0 d0 wv dz dA dB dD) (hr:w3.heap[r]? = some (.cells #[x0,x1,x2,x3] 58 (0,0)))
 (hwr:r=w.heap.size) (hc:Ch w w3 p) (hx:PI w3 p U k d wv tv rv ti ri) (hk:KP S w3 (fun w2=>bU w2 e nv ev lv)) (hS:∀j,S j→r<j) :
 ∃W9,W9=(((w3.setCell ⟨r,0,none⟩ (.int .i64 e.kind)).setCell ⟨r,1,none⟩ nv).setCell ⟨r,2,none⟩ ev).setCell ⟨r,3,none⟩ lv ∧
  ((W9.cell? ⟨r,0,none⟩=some (.int .i64 e.kind)∧W9.cell? ⟨r,1,none⟩=some nv∧W9.cell? ⟨r,2,none⟩=some ev∧W9.cell? ⟨r,3,none⟩=some lv)∧W9.frozen? ⟨r,0,none⟩=false∧W9.frozen? ⟨r,1,none⟩=false∧W9.frozen? ⟨r,2,none⟩=false∧W9.frozen? ⟨r,3,none⟩=false) ∧
  mR w W9 e (.returned (.agg #[.int .i64 e.kind,nv,ev,lv]))∧Ch w W9 p∧PI W9 p U k d wv tv rv ti ri:=by
 have hE:w.heap.size≤r:=by omega
 refine⟨_,rfl,aS (t:=58) (zo _ _ _ _ hr),⟨nv,ev,lv,rfl,?_⟩,(((hc.aN hE).aN hE).aN hE).aN hE,h0.aL (h0.aL (h0.aL (h0.aL hx hE) hE) hE) hE⟩
 refine(hk.to (((((Ag.refl _ _).setCell (fun h=>?_) _).setCell (fun h=>?_) _).setCell (fun h=>?_) _).setCell (fun h=>?_) _)).sub (fun j _ hj=>by have:=hS j hj;omega)
 all_goals exact Nat.lt_irrefl _ (hS _ h)
theorem WQ {w:World} {k:Int} {a:PT} {n1 e1 l1:Value} {q:Nat} {t:TypeId} (hq:w.heap[q]? = some (.cells #[.int .i64 a.kind,n1,e1,l1] t (0,0))) (ha:bU w a n1 e1 l1) :
 bU w (.mk k [] [] [a]) (.slice none 0 0) (.slice none 0 0) (.slice (some ⟨q,0,none⟩) 1 1):=by
 refine .mk k [] [] [a] _ _ _ [(a.kind,n1,e1,l1)] (row_zero _ _ _ rfl) (row_zero _ _ _ rfl) ⟨_,1,rfl,Nat.le_refl _,by show(1:Nat)≤_;decide,.inr ⟨q,0,rfl,lt_of_some hq,?_⟩⟩ rfl ?_ ?_
 · intro j u hu
   unfold World.cell?
   rw[show(⟨q,0+j,none⟩:Addr).block=q from rfl,hq]
   match j,hu with
   | 0,h=>simpa [iC] using h
   | 1,h=>simpa [iC] using h
   | 2,h=>simpa [iC] using h
   | 3,h=>simpa [iC] using h
   | j+4,h=>simp[iC] at h
 · intro i e p he hp
   match i,he,hp with
   | 0,he,hp=>cases he;cases hp;rfl
   | i+1,he,hp=>simp at he
 · intro i e p he hp
   match i,he,hp with
   | 0,he,hp=>cases he;cases hp;exact ha
   | i+1,he,hp=>simp at he
theorem WR {w:World} {k:Int} {a b:PT} {n1 e1 l1 n2 e2 l2:Value} {q:Nat} {t:TypeId} (hq:w.heap[q]? = some (.cells #[.int .i64 a.kind,n1,e1,l1,.int .i64 b.kind,n2,e2,l2] t (0,0))) (ha:bU w a n1 e1 l1) (hb:bU w b n2 e2 l2) :
 bU w (.mk k [] [] [a,b]) (.slice none 0 0) (.slice none 0 0) (.slice (some ⟨q,0,none⟩) 2 2):=by
 refine .mk k [] [] [a,b] _ _ _ [(a.kind,n1,e1,l1),(b.kind,n2,e2,l2)] (row_zero _ _ _ rfl) (row_zero _ _ _ rfl) ⟨_,2,rfl,Nat.le_refl _,by show(2:Nat)≤_;decide,.inr ⟨q,0,rfl,lt_of_some hq,?_⟩⟩ rfl ?_ ?_
 · intro j u hu
   unfold World.cell?
   rw[show(⟨q,0+j,none⟩:Addr).block=q from rfl,hq]
   match j,hu with
   | 0,h=>simpa [iC] using h
   | 1,h=>simpa [iC] using h
   | 2,h=>simpa [iC] using h
   | 3,h=>simpa [iC] using h
   | 4,h=>simpa [iC] using h
   | 5,h=>simpa [iC] using h
   | 6,h=>simpa [iC] using h
   | 7,h=>simpa [iC] using h
   | j+8,h=>simp[iC] at h
 · intro i e p he hp
   match i,he,hp with
   | 0,he,hp=>cases he;cases hp;rfl
   | 1,he,hp=>cases he;cases hp;rfl
   | i+2,he,hp=>simp at he
 · intro i e p he hp
   match i,he,hp with
   | 0,he,hp=>cases he;cases hp;exact ha
   | 1,he,hp=>cases he;cases hp;exact hb
   | i+2,he,hp=>simp at he
theorem QI.two {w w5:World} {p b r n5' k0 d0 k1 d:Nat} {U:List Uw} {wv tv rv ti ri dz dA dB dD x0 x1 x2 x3 y0 y1 y2 y3 n1 e1 l1 n5 e5 l5:Value} {a' b':PT} (K:Int)
 (h0:PI w p U k0 d0 wv dz dA dB dD) (hc:Ch w w5 p) (hx:PI w5 p U k1 d wv tv rv ti ri)
 (hb:w5.heap[b]? = some (.cells #[x0,x1,x2,x3] 58 (0,0))) (hr:w5.heap[r]? = some (.cells #[y0,y1,y2,y3] 58 (0,0)))
 (ka:KP (fun j=>r<j∧j≠b) w5 (fun w2=>bU w2 a' n1 e1 l1)) (kb:KP (fun j=>n5'≤j) w5 (fun w2=>bU w2 b' n5 e5 l5))
 (hwb:w.heap.size≤b) (hwr:w.heap.size≤r) (hrb:r<b) (hbn:b<n5') :
 QI w (((((w5.setCell ⟨b,0,none⟩ (.int .i64 K)).setCell ⟨b,1,none⟩ (.slice none 0 0)).setCell ⟨b,2,none⟩ (.slice none 0 0)).setCell ⟨b,3,none⟩ (.slice (some ⟨w5.heap.size,0,none⟩) 2 2)).alloc (.cells #[.int .i64 a'.kind,n1,e1,l1,.int .i64 b'.kind,n5,e5,l5] 58)) p b r U d k1 wv tv rv ti ri (.mk K [] [] [a',b']) (.slice none 0 0) (.slice none 0 0) (.slice (some ⟨w5.heap.size,0,none⟩) 2 2):=by
 have hblt:=lt_of_some hb
 have dw:=h0.lt
 obtain⟨S3,hS⟩:∃S3,S3=(((w5.setCell ⟨b,0,none⟩ (.int .i64 K)).setCell ⟨b,1,none⟩ (.slice none 0 0)).setCell ⟨b,2,none⟩ (.slice none 0 0)).setCell ⟨b,3,none⟩ (.slice (some ⟨w5.heap.size,0,none⟩) 2 2):=⟨_,rfl⟩
 have hsz:S3.heap.size=w5.heap.size:=by rw[hS];simp[World.setCell]
 have hbS:S3.heap[b]? = some (.cells #[.int .i64 K,.slice none 0 0,.slice none 0 0,.slice (some ⟨w5.heap.size,0,none⟩) 2 2] 58 (0,0)):=by
  rw[hS];exact zo _ _ _ _ hb
 have xw:S3.heap[r]? = some (.cells #[y0,y1,y2,y3] 58 (0,0)):=by
  rw[hS,Below.heap_setCell _ _ _ _ (by simp;omega),Below.heap_setCell _ _ _ _ (by simp;omega),Below.heap_setCell _ _ _ _ (by simp;omega),Below.heap_setCell _ _ _ _ (by simp;omega)];exact hr
 have xS : Ag (fun j => j ≠ b) w5 S3 := by
  rw[hS]
  exact((((Ag.refl _ _).setCell (fun h=>h rfl) _).setCell (fun h=>h rfl) _).setCell (fun h=>h rfl) _).setCell (fun h=>h rfl) _
 have Dz:Ch w S3 p:=by rw[hS];exact(((hc.aN (by omega)).aN (by omega)).aN (by omega)).aN (by omega)
 have DC:PI S3 p U k1 d wv tv rv ti ri:=by rw[hS];exact h0.aL (h0.aL (h0.aL (h0.aL hx (by omega)) (by omega)) (by omega)) (by omega)
 rw[←hS]
 have hbel:=ah (Below.refl S3.heap.size S3) (.cells #[.int .i64 a'.kind,n1,e1,l1,.int .i64 b'.kind,n5,e5,l5] 58)
 refine⟨DC.moved hbel,Dz.trans (Ch.of hbel),by rw[hbel.block _ (lt_of_some hbS)];exact hbS,⟨y0,y1,y2,y3,by rw[hbel.block _ (lt_of_some xw)];exact xw⟩,?_⟩
 intro w' hag
 have hall:Ag (fun j=>r<j∧j≠b) w5 w':=(xS.sub (fun j _ hj=>hj.2)).trans ((Ag.of hbel).trans hag)
 refine WR (t:=58) (a:=a') (b:=b') ?_ (ka w' hall) (kb w' (hall.sub (fun j _ hj=>⟨by omega,by omega⟩)))
 rw[hag.block _ (by rw[←hsz];simp) ⟨by omega,by omega⟩,←hsz]
 exact heap_alloc_new S3 _
theorem QI.one {w w5:World} {p b r n5' k0 d0 k1 d:Nat} {U:List Uw} {wv tv rv ti ri dz dA dB dD x0 x1 x2 x3 y0 y1 y2 y3 n1 e1 l1:Value} {a':PT} (K:Int)
 (h0:PI w p U k0 d0 wv dz dA dB dD) (hc:Ch w w5 p) (hx:PI w5 p U k1 d wv tv rv ti ri)
 (hb:w5.heap[b]? = some (.cells #[x0,x1,x2,x3] 58 (0,0))) (hr:w5.heap[r]? = some (.cells #[y0,y1,y2,y3] 58 (0,0)))
 (ka:KP (fun j=>r<j∧j≠b) w5 (fun w2=>bU w2 a' n1 e1 l1))
 (hwb:w.heap.size≤b) (hwr:w.heap.size≤r) (hrb:r<b) (hbn:b<n5') :
 QI w (((((w5.setCell ⟨b,0,none⟩ (.int .i64 K)).setCell ⟨b,1,none⟩ (.slice none 0 0)).setCell ⟨b,2,none⟩ (.slice none 0 0)).setCell ⟨b,3,none⟩ (.slice (some ⟨w5.heap.size,0,none⟩) 1 1)).alloc (.cells #[.int .i64 a'.kind,n1,e1,l1] 58)) p b r U d k1 wv tv rv ti ri (.mk K [] [] [a']) (.slice none 0 0) (.slice none 0 0) (.slice (some ⟨w5.heap.size,0,none⟩) 1 1):=by
 have hblt:=lt_of_some hb
 have dw:=h0.lt
 obtain⟨S3,hS⟩:∃S3,S3=(((w5.setCell ⟨b,0,none⟩ (.int .i64 K)).setCell ⟨b,1,none⟩ (.slice none 0 0)).setCell ⟨b,2,none⟩ (.slice none 0 0)).setCell ⟨b,3,none⟩ (.slice (some ⟨w5.heap.size,0,none⟩) 1 1):=⟨_,rfl⟩
 have hsz:S3.heap.size=w5.heap.size:=by rw[hS];simp[World.setCell]
 have hbS:S3.heap[b]? = some (.cells #[.int .i64 K,.slice none 0 0,.slice none 0 0,.slice (some ⟨w5.heap.size,0,none⟩) 1 1] 58 (0,0)):=by
  rw[hS];exact zo _ _ _ _ hb
 have xw:S3.heap[r]? = some (.cells #[y0,y1,y2,y3] 58 (0,0)):=by
  rw[hS,Below.heap_setCell _ _ _ _ (by simp;omega),Below.heap_setCell _ _ _ _ (by simp;omega),Below.heap_setCell _ _ _ _ (by simp;omega),Below.heap_setCell _ _ _ _ (by simp;omega)];exact hr
 have xS : Ag (fun j => j ≠ b) w5 S3 := by
  rw[hS]
  exact((((Ag.refl _ _).setCell (fun h=>h rfl) _).setCell (fun h=>h rfl) _).setCell (fun h=>h rfl) _).setCell (fun h=>h rfl) _
 have Dz:Ch w S3 p:=by rw[hS];exact(((hc.aN (by omega)).aN (by omega)).aN (by omega)).aN (by omega)
 have DC:PI S3 p U k1 d wv tv rv ti ri:=by rw[hS];exact h0.aL (h0.aL (h0.aL (h0.aL hx (by omega)) (by omega)) (by omega)) (by omega)
 rw[←hS]
 have hbel:=ah (Below.refl S3.heap.size S3) (.cells #[.int .i64 a'.kind,n1,e1,l1] 58)
 refine⟨DC.moved hbel,Dz.trans (Ch.of hbel),by rw[hbel.block _ (lt_of_some hbS)];exact hbS,⟨y0,y1,y2,y3,by rw[hbel.block _ (lt_of_some xw)];exact xw⟩,?_⟩
 intro w' hag
 have hall:Ag (fun j=>r<j∧j≠b) w5 w':=(xS.sub (fun j _ hj=>hj.2)).trans ((Ag.of hbel).trans hag)
 refine WQ (t:=58) (a:=a') ?_ (ka w' hall)
 rw[hag.block _ (by rw[←hsz];simp) ⟨by omega,by omega⟩,←hsz]
 exact heap_alloc_new S3 _
inductive yR (V:Pm.Ws):PT→Nat→PT→Nat→Prop
 | stop {k:Nat} {a:PT} (h:¬Pm.sg V k 42):yR V a k a k
 | go {k k2:Nat} {a e:PT} (h:Pm.sg V k 42) (r:yR V (.mk 7 [] [] [a]) (k+1) e k2):yR V a k e k2
theorem yR.inv {V:Pm.Ws} {a e:PT} {k k2:Nat} (h:yR V a k e k2):(¬Pm.sg V k 42∧a=e∧k=k2)∨(Pm.sg V k 42∧yR V (.mk 7 [] [] [a]) (k+1) e k2):=by
 cases h with
 | stop h=>exact .inl ⟨h,rfl,rfl⟩
 | go h r=>exact .inr ⟨h,r⟩
inductive pX (V:Pm.Ws) (P:Nat→PT→Nat→Prop):PT→Nat→PT→Nat→Prop
 | stop {k:Nat} {a:PT} (h:¬Pm.sg V k 124):pX V P a k a k
 | go {k k1 k2:Nat} {a b e:PT} (h:Pm.sg V k 124) (p:P (k+1) b k1) (r:pX V P (.mk 6 [] [] [a,b]) k1 e k2):pX V P a k e k2
theorem pX.inv {V:Pm.Ws} {P:Nat→PT→Nat→Prop} {a e:PT} {k k2:Nat} (h:pX V P a k e k2):(¬Pm.sg V k 124∧a=e∧k=k2)∨(Pm.sg V k 124∧∃b k1,P (k+1) b k1∧pX V P (.mk 6 [] [] [a,b]) k1 e k2):=by
 cases h with
 | stop h=>exact .inl ⟨h,rfl,rfl⟩
 | go h p r=>exact .inr ⟨h,_,_,p,r⟩
inductive pW (V:Pm.Ws) (P:Nat→PT→Nat→Prop):PT→Nat→PT→Nat→Prop
 | stop {k:Nat} {a:PT} (h:¬Pm.jq V k):pW V P a k a k
 | go {k k1 k2:Nat} {a b e:PT} (h:Pm.jq V k) (p:P k b k1) (r:pW V P (.mk 5 [] [] [a,b]) k1 e k2):pW V P a k e k2
theorem pW.inv {V:Pm.Ws} {P:Nat→PT→Nat→Prop} {a e:PT} {k k2:Nat} (h:pW V P a k e k2):(¬Pm.jq V k∧a=e∧k=k2)∨(Pm.jq V k∧∃b k1,P k b k1∧pW V P (.mk 5 [] [] [a,b]) k1 e k2):=by
 cases h with
 | stop h=>exact .inl ⟨h,rfl,rfl⟩
 | go h p r=>exact .inr ⟨h,_,_,p,r⟩
end Go.Proofs.YtfkmajjgkdjncaaGreatDoor

set_option maxHeartbeats 4000000
set_option maxRecDepth 100000
namespace Go.Proofs.YtfkmajjgkdjncaaGreatDoor
open Go.RowKit De Wd
theorem Em (p k d:Nat) (U:List Uw) (V:Pm.Ws) (hV:iq V U) (wv tv rv ti ri:Value) (c:UInt8) (w:World) (h:PI w p U k d wv tv rv ti ri) (hs:Pm.sg V k (c.toNat:Int)) (hd:d<40) :
 Calls Tryz.prog 193 #[.pointer (some ⟨p,0,none⟩),.string ⟨#[c]⟩] w fun x w'=>x=.returned (.tuple #[])∧Ch w w' p∧PI w' p U (k+1) (d+1) wv tv rv ti ri:=by
 obtain⟨qq,hqq⟩:=hV.at h.le
 have ht:tst 3 ⟨#[c]⟩ qq=true:=by rw[cZ hV hqq c];exact decide_eq_true hs
 have HP:=Lib.hid h
 have HT:=Lib.hid ht
 have HQ:=Lib.hid hqq
 have dw:=h.lt
 have t1:((d:Int) == 40)=false:=by simp;omega
 have t2:(d == 40)=false:=by simp;omega
 have hd0:(0:Int)≤(d:Int):=by omega
 have hd1:(d:Int)<40:=by omega
 clear h hs ht hqq
 go_enter Tryz.func193,Tryz.ntmps193
 go_wp2_with fail
 refine(aH 3 ⟨#[c]⟩ _).mono ?_
 rintro x Co ⟨b11,yP,rfl,hbx,hbt⟩
 have HT1:=Lib.hid (And.intro (HP.out.moved hbt) (And.intro hbx hbt))
 clear hbx hbt
 go_wp2_with fail
 refine(kL p k d U wv tv rv ti ri 3 ⟨#[c]⟩ b11 yP qq _ (by decide) HT1.out.1 HQ.out HT1.out.2.1 ?_ ?_ HT.out).mono ?_
 · intro e;have h1:=HT1.out.1.hh;rw[←e,HT1.out.2.1.h1] at h1;cases h1
 · intro e;have h1:=HT1.out.1.hh;rw[←e,HT1.out.2.1.h2] at h1;cases h1
 rintro x w1 ⟨rfl,hc1,hx1⟩
 replace hc1:=(Ch.of (p:=p) HT1.out.2.2).trans hc1
 have hbel:=ah (Below.refl w1.heap.size w1) (.cells #[.int .i64 qq.1,.string qq.2.1,.int .i64 qq.2.2] 72)
 have hx2:=hx1.moved hbel
 obtain⟨⟨c0,c1,c2,c3,c4,c5,c6⟩,f0,f1,f2,f3,f4,f5,f6⟩:=aM hx2.hh
 have hx3:PI ((w1.alloc (.cells #[.int .i64 qq.1,.string qq.2.1,.int .i64 qq.2.2] 72)).setCell ⟨p,2,none⟩ (.int .i64 ((d:Int)+1))) p U (k+1) (d+1) wv tv rv ti ri:=by
  have h9:=hx2.deep (d':=d+1)
  rwa [show((d+1:Nat):Int)=(d:Int)+1 by omega] at h9
 obtain⟨W2,hW2⟩:∃W2,W2=w1.alloc (.cells #[.int .i64 qq.1,.string qq.2.1,.int .i64 qq.2.2] 72):=⟨_,rfl⟩
 rw[←hW2] at hx3 c0 c1 c2 c3 c4 c5 c6 f0 f1 f2 f3 f4 f5 f6
 have HC:=Lib.hid (show Ch w (W2.setCell ⟨p,2,none⟩ (.int .i64 ((d:Int)+1))) p from((hc1.trans (by rw[hW2];exact Ch.of hbel)).trans (Ch.set _ _ _ _)))
 have WG:=Lib.hid hx3
 have HW2:=Lib.hid hW2
 clear hx1 hc1 hbel hx2 hx3 hW2
 go_wp2_with (with_reducible rw[←HW2.out])
 go_end0
 exact⟨rfl,HC.out,WG.out⟩
theorem yT (p k d:Nat) (U:List Uw) (V:Pm.Ws) (hV:iq V U) (wv tv rv ti ri:Value) (c:UInt8) (w:World) (h:PI w p U k (d+1) wv tv rv ti ri) (hs:Pm.sg V k (c.toNat:Int)) (hd:d<40) :
 Calls Tryz.prog 194 #[.pointer (some ⟨p,0,none⟩),.string ⟨#[c]⟩] w fun x w'=>x=.returned (.tuple #[])∧Ch w w' p∧PI w' p U (k+1) d wv tv rv ti ri:=by
 obtain⟨qq,hqq⟩:=hV.at h.le
 have ht:tst 3 ⟨#[c]⟩ qq=true:=by rw[cZ hV hqq c];exact decide_eq_true hs
 have HP:=Lib.hid h
 have HT:=Lib.hid ht
 have HQ:=Lib.hid hqq
 have hd0:(0:Int)≤(d:Int):=by omega
 have hd1:(d:Int)<40:=by omega
 clear h hs ht hqq
 go_enter Tryz.func194,Tryz.ntmps194
 go_wp2_with fail
 refine(aH 3 ⟨#[c]⟩ _).mono ?_
 rintro x Co ⟨b11,yP,rfl,hbx,hbt⟩
 have HT1:=Lib.hid (And.intro (HP.out.moved hbt) (And.intro hbx hbt))
 clear hbx hbt
 go_wp2_with fail
 refine(kL p k (d+1) U wv tv rv ti ri 3 ⟨#[c]⟩ b11 yP qq _ (by decide) HT1.out.1 HQ.out HT1.out.2.1 ?_ ?_ HT.out).mono ?_
 · intro e;have h1:=HT1.out.1.hh;rw[←e,HT1.out.2.1.h1] at h1;cases h1
 · intro e;have h1:=HT1.out.1.hh;rw[←e,HT1.out.2.1.h2] at h1;cases h1
 rintro x w1 ⟨rfl,hc1,hx1⟩
 replace hc1:=(Ch.of (p:=p) HT1.out.2.2).trans hc1
 obtain⟨⟨c0,c1,c2,c3,c4,c5,c6⟩,f0,f1,f2,f3,f4,f5,f6⟩:=aM hx1.hh
 have HX:=Lib.hid hx1
 have HC:=Lib.hid hc1
 clear hx1 hc1
 go_wp2_with fail
 try simp only[show((d+1:Nat):Int)-1=(d:Int) by omega]
 go_end0
 exact⟨rfl,HC.out.trans (Ch.set _ _ _ _),HX.out.deep⟩
end Go.Proofs.YtfkmajjgkdjncaaGreatDoor

namespace Go.Proofs.YtfkmajjgkdjncaaGreatDoor
open Go.RowKit
theorem Jf {w:World} {g n size:Nat} {cs:Array Value} {e:TypeId} (h:w.heap[g]? = some (.cells cs e (0,0))) (hs:cs.size=n*size) (hn:n≤maxLen):w.ownsRow g e size (.slice (some ⟨g,0,none⟩) n n) n cs.toList:=
 ⟨by simpa using hs,.inr ⟨g,n,cs,rfl,Nat.le_refl _,h,Nat.le_refl _,hn,hs,List.take_of_length_le (by simp[hs])⟩⟩
theorem bE {w:World} {e:TypeId} {g size:Nat} {cs:Array Value} (hs:cs.size=size) (hg:g=w.heap.size):Row (w.alloc (.cells cs e)) (.slice (some ⟨g,0,none⟩) 1 1) 1 cs.toList:=by
 subst hg;exact Row.owned (Jf (n:=1) (size:=size) (heap_alloc_new w _) (by simpa using hs) (by decide))
end Go.Proofs.YtfkmajjgkdjncaaGreatDoor

set_option maxHeartbeats 4000000
set_option maxRecDepth 100000
namespace Go.Proofs.YtfkmajjgkdjncaaGreatDoor
open Go.RowKit De Wd
theorem PI.under {w w1 w2:World} {p k d k0 d0:Nat} {U:List Uw} {wv tv rv ti ri dz dA dB dD:Value} (h0:PI w p U k0 d0 wv dz dA dB dD) (h:PI w1 p U k d wv tv rv ti ri) (hb:Below w.heap.size w1 w2):PI w2 p U k d wv tv rv ti ri:=by
 have hp:=h0.lt
 refine⟨by rw[hb.block p hp];exact h.hh,?_,h.far,h.le,h.small,h.last⟩
 obtain⟨o,cap,rfl,h1,h2,h3⟩:=h.row
 refine⟨o,cap,rfl,h1,h2,?_⟩
 rcases h3 with h3|⟨b,off,rfl,hb1,hc⟩
 · exact .inl h3
 · obtain ⟨o', cap', e', _, _, h3'⟩ := h0.row
   simp only[Value.slice.injEq,true_and] at e'
   obtain⟨rfl,rfl⟩:=e'
   rcases h3' with h3'|⟨b',off',e',hb',_⟩
   · have:=h0.le;omega
   · simp only [Option.some.injEq, Addr.mk.injEq, and_true] at e'
     obtain⟨rfl,rfl⟩:=e'
     refine .inr ⟨_,_,rfl,Nat.lt_of_lt_of_le hb1 hb.size,fun j u hu=>?_⟩
     rw[←hc j u hu]
     unfold World.cell?
     rw[hb.block _ hb']
theorem jo {a b:Nat} {w w':World} (h:a≤b) (k:Below b w w'):Below a w w':=⟨k.os,k.tape,k.output,k.size,fun j hj=>k.block j (by omega)⟩
theorem Ch.under {w w1 w2:World} {p:Nat} (h:Ch w w1 p) (hb:Below w.heap.size w1 w2):Ch w w2 p:=
 ⟨by rw[hb.os,h.os],by rw[hb.tape,h.tape],by rw[hb.output,h.output],Nat.le_trans h.size hb.size,fun k hk hn=>by rw[hb.block k hk,h.block k hk hn]⟩
theorem jM {V:Pm.Ws} {U:List Uw} (hV:iq V U) {k:Nat} {q:Uw} (hq:U[k]? = some q) {kk:Int} {b:ByteArray} (h:V[k]? = some (kk,sb b)):q.1=kk∧q.2.1=b:=by
 have hlt:k<V.length:=(List.getElem?_eq_some_iff.1 h).1
 rw[hV.get k q hq hlt] at h
 simp at h
 exact⟨h.1,NM h.2⟩
theorem Cg {s:ByteArray} (h:cK s=true):s.size≤1000:=by
 unfold cK at h
 simp at h
 omega
theorem uO (p k d:Nat) (U:List Uw) (V:Pm.Ws) (hV:iq V U) (wv tv rv ti ri:Value) (b:ByteArray) (w:World) (h:PI w p U k d wv tv rv ti ri) (hv:V[k]? = some (1,sb b)) (hb:cK b=true) :
 Calls Tryz.prog 91 #[.pointer (some ⟨p,0,none⟩)] w fun x w'=>x=.returned (.string b)∧Ch w w' p∧PI w' p U (k+1) d wv tv rv ti ri:=by
 obtain⟨⟨qk,qb,qn⟩,hqq⟩:=hV.at h.le
 obtain⟨e1,e2⟩:=jM hV hqq hv
 dsimp only at e1 e2
 obtain rfl:(1:Int)=qk:=e1.symm
 obtain rfl:b=qb:=e2.symm
 have ht:iU 1 ((1:Int),b,qn)=true:=rfl
 have HP:=Lib.hid h
 have HT:=Lib.hid ht
 have HQ:=Lib.hid hqq
 have HN:=Lib.hid (fun w=>yD b w (Cg hb))
 have HB:=Lib.hid hb
 clear h hv ht hqq hb
 go_enter Tryz.func91,Tryz.ntmps91
 go_wp2_with fail
 refine(dO 1 _).mono ?_
 rintro x Co ⟨b11,rfl,hbx,hbt⟩
 have HT1:=Lib.hid (And.intro (HP.out.moved hbt) (And.intro hbx hbt))
 clear hbx hbt
 go_wp2_with fail
 refine(rz p k d U wv tv rv ti ri 1 b11 ((1:Int),b,qn) _ (by decide) HT1.out.1 HQ.out HT1.out.2.1 HT.out).mono ?_
 rintro x w1 ⟨rfl,hc1,hx1⟩
 replace hc1:=(Ch.of (p:=p) HT1.out.2.2).trans hc1
 have hbel:=ah (Below.refl w1.heap.size w1) (.cells #[.int .i64 (1:Int),.string b,.int .i64 qn] 72)
 have H1:=Lib.hid (And.intro (hx1.moved hbel) (And.intro (hc1.trans (Ch.of hbel)) (heap_alloc_new w1 (.cells #[.int .i64 (1:Int),.string b,.int .i64 qn] 72))))
 clear hx1 hc1 hbel
 go_wp2_with fail
 refine(HN.out _).mono ?_
 rintro x w2 ⟨rfl,hb2⟩
 rw[HB.out]
 have hg2:=aB hb2 H1.out.2.2
 obtain⟨⟨c0,c1,c2⟩,f0,f1,f2⟩:=ay hg2
 have H2:=Lib.hid (And.intro (H1.out.1.moved hb2) (H1.out.2.1.trans (Ch.of hb2)))
 clear hb2 hg2
 go_wp2_with fail
 go_ret
 exact⟨rfl,H2.out.2,H2.out.1⟩
inductive En (V:Pm.Ws):List ByteArray→Nat→List ByteArray→Nat→Prop
 | stop {k:Nat} {l:List ByteArray} (h:Pm.vk V k≠1):En V l k l k
 | go {k j:Nat} {b:ByteArray} {l m:List ByteArray} (h:V[k]? = some (1,sb b)) (hb:cK b=true) (r:En V (l++[b]) (k+1) m j):En V l k m j
theorem En.inv {V:Pm.Ws} {l m:List ByteArray} {k j:Nat} (h:En V l k m j):(Pm.vk V k≠1∧l=m∧k=j)∨(∃b,V[k]? = some (1,sb b)∧cK b=true∧En V (l++[b]) (k+1) m j):=by
 cases h with
 | stop h=>exact .inl ⟨h,rfl,rfl⟩
 | go h hb r=>exact .inr ⟨_,h,hb,r⟩
theorem WS {V:Pm.Ws} {k j:Nat} {l:List ByteArray} (h:Pm.ny V k l j):∃b,V[k]? = some (1,sb b)∧cK b=true∧∀pre,En V (pre++[b]) (k+1) (pre++l) j:=by
 induction h with
 | last h hb h2=>exact⟨_,h,hb,fun pre=>.stop h2⟩
 | @more k1 j1 b1 l1 h hb r ih =>
  obtain⟨b2,h2,hb2,ih⟩:=ih
  refine⟨_,h,hb,fun pre=>.go h2 hb2 ?_⟩
  have h9:=ih (pre++[b1])
  rw[List.append_assoc pre [b1] l1] at h9
  exact h9
theorem iR {V:Pm.Ws} {k j:Nat} {l:List ByteArray} (h:Pm.ny V k l j):k<j:=by
 induction h with
 | last _ _ _=>omega
 | more _ _ _ ih=>omega
theorem wY (p k d j:Nat) (U:List Uw) (V:Pm.Ws) (hV:iq V U) (wv tv rv ti ri:Value) (ns:List ByteArray) (w:World) (h:PI w p U k d wv tv rv ti ri) (hn:Pm.ny V k ns j) :
 Calls Tryz.prog 122 #[.pointer (some ⟨p,0,none⟩)] w fun x w'=>∃v,x=.returned v∧w'.ownsRow w.heap.size 9 1 v ns.length (strs ns)∧Ch w w' p∧PI w' p U j d wv tv rv ti ri:=by
 obtain⟨b0,hv0,hb0,hl⟩:=WS hn
 have hl0:=hl []
 simp only[List.nil_append] at hl0
 obtain⟨ii,hi,hz0,hz1,hz2⟩:=Au
 have hfd:∀(a c:Int) (b:ByteArray) (w:World),(Instr.field 72 (.agg #[.int .i64 a,.string b,.int .i64 c]) 0).run Tryz.prog w=.ok (.int .i64 a) w:=fun _ _ _ _=>by kernel_rfl
 have hsm:=h.small
 have HP:=Lib.hid h
 have HL:=Lib.hid hl0
 have YF:=Lib.hid (And.intro hv0 hb0)
 clear h hn hl hl0 hv0 hb0
 go_enter Tryz.func122,Tryz.ntmps122
 go_wp2_with fail
 refine(uO p k d U V hV wv tv rv ti ri b0 _ HP.out YF.out.1 YF.out.2).mono ?_
 rintro x w1 ⟨rfl,hc1,hx1⟩
 have hbel:=ah (Below.refl w1.heap.size w1) (.cells #[.string b0] 9)
 have hown:(w1.alloc (.cells #[.string b0] 9)).ownsRow w.heap.size 9 1 (.slice (some ⟨w1.heap.size,0,none⟩) 1 1) 1 (strs [b0]):=by
  have h9:=Ej (n:=1) (size:=1) (heap_alloc_new w1 (.cells #[.string b0] 9)) rfl (by decide)
  exact ji h9 hc1.size
 have hkk:=hx1.le
 have H1:=Lib.hid (And.intro (hx1.moved hbel) (And.intro (hc1.trans (Ch.of hbel)) hown))
 clear hx1 hc1 hbel hown
 go_wp2_with fail
 go_loopg [3] (U.length-(k+1)) (fun g s3 wx=>∃(pre:List ByteArray) (ki:Nat),ki+g=U.length∧PI wx p U ki d wv tv rv ti ri∧Ch w wx p∧wx.ownsRow w.heap.size 9 1 s3 pre.length (strs pre)∧pre.length≤ki∧En V pre ki ns j)
 case atStart=>exact⟨[b0],k+1,by omega,H1.out.1,H1.out.2.1,H1.out.2.2,by simp,HL.out⟩
 case round=>
  obtain⟨pre,ki,hkg,hx,hc,hown,hpk,hnl⟩:=hrel
  obtain⟨o3,c3,rfl⟩:=au hown
  obtain⟨⟨qk,qb,qn⟩,hqq⟩:=hV.at hx.le
  have hts:=RG hV hqq (kk:=1) (by decide)
  unfold iU at hts
  dsimp only at hts
  have hle:=hx.le
  have HI:=Lib.hid (And.intro hx (And.intro hc hown))
  have HQ:=Lib.hid hqq
  have hw0:w.heap.size≤wr.heap.size:=hc.size
  clear hx hc hown hqq
  rcases hnl.inv with⟨hne,rfl,rfl⟩|⟨b,hvb,hnb,WT⟩
  · rw [decide_eq_false hne] at hts
    clear hne hnl
    go_wp2_with fail
    refine(bD p ki d U wv tv rv ti ri (qk,qb,qn) _ HI.out.1 HQ.out).mono ?_
    rintro x w2 ⟨rfl,hb2⟩
    dsimp only[iZ]
    have H2:=Lib.hid (And.intro (HI.out.1.moved hb2) (And.intro (HI.out.2.1.trans (Ch.of hb2)) (bS HI.out.2.2 hb2)))
    clear hb2
    go_wp2_with fail
    go_ret
    exact⟨_,rfl,H2.out.2.2,H2.out.2.1,H2.out.1⟩
  · have hvk : Pm.vk V ki = 1 := by unfold Pm.vk; rw [hvb]
    rw[decide_eq_true hvk] at hts
    have HB:=Lib.hid (And.intro hvb (And.intro hnb WT))
    clear hvk hvb hnb WT hnl
    go_wp2_with fail
    refine(bD p ki d U wv tv rv ti ri (qk,qb,qn) _ HI.out.1 HQ.out).mono ?_
    rintro x w2 ⟨rfl,hb2⟩
    dsimp only[iZ]
    have H2:=Lib.hid (And.intro (HI.out.1.moved hb2) (And.intro (HI.out.2.1.trans (Ch.of hb2)) (bS HI.out.2.2 hb2)))
    go_wp2_with fail
    refine(uO p ki d U V hV wv tv rv ti ri b _ H2.out.1 HB.out.1 HB.out.2.1).mono ?_
    rintro x w3 ⟨rfl,hc3,hx3⟩
    have dw:=HP.out.lt
    have hown3:=dU H2.out.2.2 hc3.ag (fun j e=>by have:=(H2.out.2.2.lt j e).1;omega)
    have hs3:w.heap.size≤w3.heap.size:=Nat.le_trans (Nat.le_trans hw0 hb2.size) hc3.size
    have hle3:=hx3.le
    have H3:=Lib.hid (And.intro hx3 (And.intro (H2.out.2.1.trans hc3) hown3))
    clear hx3 hc3 hown3 hb2
    go_wp2_with (at_builtin;refine aW _ rfl _ _ 55 rfl w.heap.size 9 ii _ 1 16 Tryz.underlying55 hi hz0 hz1 hz2 rfl (by decide) (.slice o3 pre.length c3) pre.length (strs pre) rfl (by repeat (first|exact H3.out.2.2|refine World.ownsRow.alloc ?_ _|refine bX ?_)) _ 1 _ rfl (by exact bE rfl (by simp)) rfl (by simp[Value.oneCell']) (by unfold maxLen;omega) (by omega) (by simp;omega) ?_;intro v9 w9 aI fu dP bF;obtain⟨o9,c9,rfl⟩:=au aI)
    have AB:Below w.heap.size w3 w9:=Below.trans (jo hs3 (ah (Below.refl _ _) _)) bF
    have H4:=Lib.hid (And.intro (HP.out.under H3.out.1 AB) (And.intro (H3.out.2.1.under AB) aI))
    clear aI fu dP bF AB
    go_roundg (gk-1)
    case measure=>omega
    case rel=>exact⟨pre++[b],ki+1,by omega,H4.out.1,H4.out.2.1,by simpa [strs] using H4.out.2.2,by simp;omega,HB.out.2.2⟩
end Go.Proofs.YtfkmajjgkdjncaaGreatDoor
