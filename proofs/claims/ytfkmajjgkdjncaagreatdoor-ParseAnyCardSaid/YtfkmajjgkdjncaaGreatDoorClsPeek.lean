/- Merged. -/
import Derived.Lib.ConvBytes
import Derived.ArgAppend
import Derived.Deep.Upon
import Derived.Deep.AppendSrc
import Derived.Test.YtfkmajjgkdjncaaGreatDoorWordOne
import Derived.RegionTactic
import Derived.ChangeAlike
import Derived.BigRegion
import Derived.Test.YtfkmajjgkdjncaaGreatDoorCh
set_option linter.unusedVariables false
set_option linter.unusedSimpArgs false
set_option maxHeartbeats 8000000
set_option maxRecDepth 1000000
namespace Go.Proofs.YtfkmajjgkdjncaaGreatDoor
open Go.RowKit De
theorem OA (L:List (Nat×It)):∀(k i:Nat) (p:Nat×It),L[k]? = some p→i<5→(lM L)[k*5+i]? = (itc p.1 p.2)[i]?:=by
 induction L with
 | nil=>intro k i p h;simp at h
 | cons q L ih =>
  intro k i p h hi
  have e:lM (q::L)=itc q.1 q.2++lM L:=by simp[lM]
  have hl:(itc (q.1:Nat) q.2).length=5:=by simp[itc]
  rw[e]
  cases k with
  | zero =>
   simp at h
   subst h
   rw[List.getElem?_append_left (by omega)]
   simp
  | succ k =>
   rw[List.getElem?_append_right (by omega)]
   have:=ih k i p (by simpa using h) hi
   rw[←this]
   congr 1;omega
theorem Row.item {w:World} {v:Value} {L:List (Nat×It)} (h:Row w v L.length (lM L)) {k:Nat} {p:Nat×It} (hk:L[k]? = some p) :
 ∃b off cap,v=.slice (some ⟨b,off,none⟩) L.length cap∧b<w.heap.size ∧
  w.cell? ⟨b,off+k*5,none⟩=some (.int .i32 p.2.r)∧w.cell? ⟨b,off+k*5+1,none⟩=some (.int .i64 p.1)∧w.cell? ⟨b,off+k*5+2,none⟩=some (.int .i64 ((p.1:Int)+p.2.n)) ∧
  w.cell? ⟨b,off+k*5+3,none⟩=some (.bool p.2.bad)∧w.cell? ⟨b,off+k*5+4,none⟩=some (.bool p.2.more):=by
 have hlt:k<L.length:=(List.getElem?_eq_some_iff.1 hk).1
 obtain⟨o,cap,rfl,h1,h2,h3⟩:=h
 rcases h3 with⟨h0,_⟩|⟨b,off,rfl,hb,hc⟩
 · omega
 have g:=fun i hi=>OA L k i p hk hi
 refine⟨b,off,cap,rfl,hb,?_,?_,?_,?_,?_⟩
 · have:=hc (k*5+0) (.int .i32 p.2.r) (by rw[g 0 (by omega)];rfl);simpa [Nat.add_assoc] using this
 · have:=hc (k*5+1) (.int .i64 p.1) (by rw[g 1 (by omega)];rfl);simpa [Nat.add_assoc] using this
 · have:=hc (k*5+2) (.int .i64 ((p.1:Int)+p.2.n)) (by rw[g 2 (by omega)];rfl);simpa [Nat.add_assoc] using this
 · have:=hc (k*5+3) (.bool p.2.bad) (by rw[g 3 (by omega)];rfl);simpa [Nat.add_assoc] using this
 · have:=hc (k*5+4) (.bool p.2.more) (by rw[g 4 (by omega)];rfl);simpa [Nat.add_assoc] using this
open Go.RowKit
theorem lI (w:World) (e:TypeId) (s:ByteArray):Below w.heap.size w (Lib.bytesWorld w e s):=by
 refine⟨?_,?_,?_,by rw[Lib.bytesWorld_size];omega,fun k hk=>Lib.bytesWorld_at_old w e s k hk⟩<;>(unfold Lib.bytesWorld World.freeze;rw[if_neg (by decide)];rfl)
theorem IQ (w:World) (e:TypeId) (s:ByteArray):∀(j:Nat) (u:Value),((sb s).map (Value.int .u8))[j]? = some u→(Lib.bytesWorld w e s).cell? ⟨w.heap.size,0+j,none⟩=some u:=by
 intro j u hu
 have hj:j<s.size:=by
  have:=(List.getElem?_eq_some_iff.1 hu).1
  simpa [sb] using this
 rw[Nat.zero_add,Lib.bytesWorld_cell w e s j hj,←hu]
 have hj':j<s.data.size:=hj
 simp[sb,hj',List.getD,Array.getElem?_eq_getElem hj']
open Go.RowKit De Wd
theorem LX (x : It) (f : Int) (w : World) : Calls Tryz.prog 80 #[.agg #[.int .i32 x.r, .int .i64 f, .int .i64 (f + x.n), .bool x.bad, .bool x.more]] w fun e w' => e = .returned (.bool x.bad) ∧ Below w.heap.size w w' := by
 go_enter Tryz.func80,Tryz.ntmps80
 go_wp2
 go_ret
 exact⟨rfl,ah (Below.refl _ _) _⟩
namespace Wd
def ib (L:List (Nat×It)):Int:=match L.findIdx? (·.2.bad) with|some i=>i|none=>-1
theorem LY (L:List (Nat×It)) (k:Nat) (p:Nat×It) (h0:∀j q,j<k→L[j]? = some q→q.2.bad=false) (hk:L[k]? = some p) (hp:p.2.bad=false):∀j q,j<k+1→L[j]? = some q→q.2.bad=false:=by
 intro j q hj hq
 by_cases e:j=k
 · subst e;rw[hk] at hq;cases hq;exact hp
 · exact h0 j q (by omega) hq
theorem LZ (L:List (Nat×It)) (k:Nat) (p:Nat×It) (h0:∀j q,j<k→L[j]? = some q→q.2.bad=false) (hk:L[k]? = some p) (hp:p.2.bad=true):ib L=k∧L.find? (·.2.bad)=some p:=by
 induction L generalizing k with
 | nil=>simp at hk
 | cons a L ih =>
  cases k with
  | zero =>
   simp at hk;subst hk
   simp[ib,List.findIdx?_cons,hp,List.find?_cons]
  | succ k =>
   have ha:=h0 0 a (by omega) (by simp)
   have:=ih k (fun j q hj hq=>h0 (j+1) q (by omega) (by simpa using hq)) (by simpa using hk)
   refine⟨?_,by simp[List.find?_cons,ha,this.2]⟩
   have h1:=this.1
   unfold ib at h1 ⊢
   rw[List.findIdx?_cons,ha]
   cases hf:L.findIdx? (·.2.bad) with
   | none=>rw[hf] at h1;simp at h1<;>omega
   | some i=>rw[hf] at h1;simp at h1 ⊢;omega
theorem Jw (L:List (Nat×It)) (h0:∀j q,j<L.length→L[j]? = some q→q.2.bad=false):ib L=-1∧L.find? (·.2.bad)=none:=by
 have h:∀q∈L,q.2.bad=false:=by
  intro q hq
  obtain⟨j,hj⟩:=List.mem_iff_getElem?.1 hq
  exact h0 j q (List.getElem?_eq_some_iff.1 hj).1 hj
 refine⟨?_,?_⟩
 · have : L.findIdx? (·.2.bad) = none := by rw [List.findIdx?_eq_none_iff]; exact h
   unfold ib;rw[this]
 · rw[List.find?_eq_none];intro q hq;simp[h q hq]
end Wd
theorem Fj (L:List (Nat×It)) (v:Value) (w:World) (hr:Row w v L.length (lM L)) (hl:L.length≤1000000) :
 Calls Tryz.prog 79 #[v,.func (Fn.func 80) #[] #[]] w fun e w'=>e=.returned (.int .i64 (ib L))∧Below w.heap.size w w':=by
 have HR:=Lib.hid hr
 obtain⟨o,cap,rfl,_⟩:=hr
 go_enter Tryz.func79,Tryz.ntmps79
 go_wp2_with fail
 go_loopw [8,5] (fun n i wr=>∃k:Nat,k≤L.length∧n=.int .i64 k∧(∀j q,j<k→L[j]? = some q→q.2.bad=false)∧Below w.heap.size w wr) (fun n _ _=>L.length-(intOf n).toNat)
 case atStart=>exact⟨0,Nat.zero_le _,rfl,fun j q hj=>by omega,Below.refl _ _⟩
 case round=>
  obtain⟨k,hk,rfl,hb,hbel⟩:=hrel
  obtain⟨wo,rfl⟩:∃wo:World,wo=wr:=⟨_,rfl⟩
  have HB:=Lib.hid (And.intro hb hbel)
  clear hb hbel
  by_cases hlt:k<L.length
  · obtain ⟨p, hp⟩ : ∃ p, L[k]? = some p := ⟨L[k], List.getElem?_eq_getElem hlt⟩
    obtain⟨b1,f1,k1,e1,hb1,a0,a1,a2,a3,a4⟩:=(HR.out.below HB.out.2).item hp
    simp only[Value.slice.injEq,true_and] at e1
    obtain⟨rfl,rfl⟩:=e1
    obtain⟨pf,x⟩:=p
    have HP:=Lib.hid hp
    simp only at a0 a1 a2 a3 a4
    clear hp
    have hc:=fun w=>LX x (pf:Int) w
    have HC:=Lib.hid hc
    clear hc
    have hii:(0:Int)≤(k:Int):=by omega
    have hij:(k:Int)<(L.length:Int):=by omega
    cases hbad:x.bad with
    | true =>
     have hx:=LZ L k _ HB.out.1 HP.out hbad
     have HX:=Lib.hid hx
     rw[hbad] at HC a3
     clear hx hbad
     go_wp2_with fail
     refine(HC.out _).mono ?_
     rintro e w1 ⟨rfl,hb1⟩
     go_wp2
     go_ret
     exact⟨by rw[HX.out.1];rfl,HB.out.2.trans (hb1.mono HB.out.2.size)⟩
    | false =>
     have hx:=LY L k _ HB.out.1 HP.out hbad
     have HX:=Lib.hid hx
     rw[hbad] at HC a3
     clear hx hbad
     go_wp2_with fail
     refine(HC.out _).mono ?_
     rintro e w1 ⟨rfl,hb1⟩
     have hB1:=HB.out.2.trans (hb1.mono HB.out.2.size)
     go_wp2
     go_roundw
     case rel=>exact⟨k+1,by omega,by go_num,HX.out,hB1⟩
     case measure=>simp[intOf];omega
  · have hkn : k = L.length := by omega
    subst hkn
    have hx:=Jw L HB.out.1
    have HX:=Lib.hid hx
    clear hx
    go_wp2
    go_ret
    exact⟨by rw[HX.out.1];rfl,HB.out.2⟩
theorem sw (w:World) (s:ByteArray) (hs:s.size≤100000):Row (Lib.bytesWorld w 5 s) (.slice (some ⟨w.heap.size,0,none⟩) s.size (grownCap w s.size 0 5)) (sb s).length ((sb s).map (Value.int .u8)):=
 ⟨_,_,by rw[bg],by rw[bg];exact grownCap_ge w s.size 0 _,grownCap_le_maxLen w s.size 0 _ (by unfold maxLen;omega),.inr ⟨w.heap.size,0,rfl,by rw[Lib.bytesWorld_size];omega,IQ w _ s⟩⟩
theorem Sn {l:List Int} {p:Nat×It} {L:List (Nat×It)} (hL:L=all 0 l) (h:L.find? (·.2.bad)=some p):fb l=p.1:=by unfold fb;rw[←hL,h]
theorem Sq {l:List Int} {L:List (Nat×It)} (hL:L=all 0 l) (h:L.find? (·.2.bad)=none):fb l=l.length:=by unfold fb;rw[←hL,h]
theorem Fp (s : ByteArray) (w : World) (hs : s.size ≤ 100000) : Calls Tryz.prog 50 #[.string s] w fun e w' => e = .returned (.int .i64 (fb (sb s))) ∧ Below w.heap.size w w' := by
 have pz:=fun w=>Lib.run_convert_string_bytes (P:=Tryz.prog) w 9 84 5 s Tryz.underlying9 Tryz.underlying84 Tryz.underlying5
 have hall:=sD (sb s) (.slice (some ⟨w.heap.size,0,none⟩) s.size (grownCap w s.size 0 5)) (Lib.bytesWorld w 5 s) (sw w s hs) (oJ s) (by rw[bg];omega)
 have hlen:=ql 0 (sb s)
 rw[bg] at hlen
 obtain⟨L,hL⟩:∃L,L=all 0 (sb s):=⟨_,rfl⟩
 rw[←hL] at hall hlen
 have HA:=Lib.hid hall
 have HL:=Lib.hid hL
 clear hall hL
 go_enter Tryz.func50,Tryz.ntmps50
 go_wp2_with fail
 refine HA.out.mono ?_
 rintro e w1 ⟨u,rfl,hown,hb1⟩
 have hB1:Below w.heap.size w w1:=ak (lI w _ s) hb1
 obtain⟨ou,cu,rfl⟩:=au hown
 have HO:=Lib.hid (And.intro hown hB1)
 clear hown hb1 hB1 pz
 go_wp2_with fail
 refine(Fj L _ _ (Row.owned HO.out.1) (by omega)).mono ?_
 rintro e w2 ⟨rfl,hb2⟩
 have hB2:Below w.heap.size w w2:=HO.out.2.trans (hb2.mono HO.out.2.size)
 cases hf:L.find? (·.2.bad) with
 | none =>
  have h0:∀j q,j<L.length→L[j]? = some q→q.2.bad=false:=by
   intro j q hj hq
   have:=List.find?_eq_none.1 hf q (List.mem_of_getElem? hq)
   simpa using this
  have h1:=Sq HL.out hf
  rw[(Jw L h0).1]
  have H1:=Lib.hid h1
  have HB:=Lib.hid hB2
  clear hf h0 h1 hB2 hb2
  go_wp2
  go_ret
  exact⟨by rw[H1.out,bg];rfl,HB.out⟩
 | some p =>
  obtain⟨k,hk,hkp,hpb,hkb⟩:∃k,k<L.length∧L[k]? = some p∧p.2.bad=true∧∀j q,j<k→L[j]? = some q→q.2.bad=false:=by
   obtain⟨hpb,xs,ys,e,hn⟩:=List.find?_eq_some_iff_append.1 hf
   refine⟨xs.length,by rw[e];simp,by rw[e];simp,hpb,fun j q hj hq=>?_⟩
   rw[e,List.getElem?_append_left hj] at hq
   have:=hn q (List.mem_of_getElem? hq)
   simpa using this
  have h1:=Sn HL.out hf
  rw[(LZ L k p hkb hkp hpb).1]
  obtain⟨b1,f1,k1,e1,hb1,a0,a1,a2,a3,a4⟩:=((Row.owned HO.out.1).below hb2).item hkp
  simp only[Value.slice.injEq,true_and] at e1
  obtain⟨rfl,rfl⟩:=e1
  have H1:=Lib.hid h1
  have HB:=Lib.hid hB2
  have hii:(0:Int)≤(k:Int):=by omega
  have hij:(k:Int)<(L.length:Int):=by omega
  have hik:decide ((k:Int)<0)=false:=by simp<;>omega
  clear hf hkb hkp h1 hB2 hb2 hpb
  go_wp2
  go_ret
  exact⟨by rw[H1.out];rfl,HB.out⟩
theorem set1 {w:World} {p:Nat} {a:Value} {t:TypeId} (h:w.heap[p]? = some (.cells #[a] t (0,0))) (x:Value):(w.setCell ⟨p,0,none⟩ x).heap[p]? = some (.cells #[x] t (0,0)):=CJ h x
def Uo (w:World) (p q r:Nat) (a b:Int) (x:Exit) (c:Act) (w':World):Prop:=
 x=.normal∧c.defers=[]∧w'.heap[p]? = some (.cells #[.slice none 0 0] 67 (0,0))∧w'.heap[q]? = some (.cells #[.int .i64 a] 3 (0,0))∧w'.heap[r]? = some (.cells #[.int .i64 b] 3 (0,0))∧∀k,k≤p→k≤q→k≤r→k≤w.heap.size→Below k w w'
theorem sV (p q r:Nat) (a b:Int) (v x y:Value) (w:World)
 (hP:w.heap[p]? = some (.cells #[v] 67 (0,0))) (hQ:w.heap[q]? = some (.cells #[x] 3 (0,0))) (hR:w.heap[r]? = some (.cells #[y] 3 (0,0))) (hpq:p≠q) (hqr:q≠r) (hpr:p≠r) :
 CallsD Tryz.prog 49 #[.pointer (some ⟨p,0,none⟩),.pointer (some ⟨q,0,none⟩),.pointer (some ⟨r,0,none⟩)] (.panicking ({ v:=.iface 103 (.agg #[.int .i64 a,.int .i64 b]),recovered:=false }::[])) w fun e u' w'=>
  e=.returned (.tuple #[])∧u'=.panicking ({ v:=.iface 103 (.agg #[.int .i64 a,.int .i64 b]),recovered:=true }::[]) ∧
  w'.heap[p]? = some (.cells #[.slice none 0 0] 67 (0,0))∧w'.heap[q]? = some (.cells #[.int .i64 a] 3 (0,0))∧w'.heap[r]? = some (.cells #[.int .i64 b] 3 (0,0))∧∀k,k≤p→k≤q→k≤r→k≤w.heap.size→Below k w w':=by
 have ta:∀w,(Instr.typeAssert (.iface 103 (.agg #[.int .i64 a,.int .i64 b])) 20 103 true).run Tryz.prog w=.ok (.tuple #[.agg #[.int .i64 a,.int .i64 b],.bool true]) w:=fun w=>by kernel_rfl
 obtain⟨cP,fP⟩:=aj hP
 obtain⟨cQ,fQ⟩:=aj hQ
 obtain⟨cR,fR⟩:=aj hR
 refine callsD_of_wpS Tryz.func49 rfl fun c₀ cs hu=>?_
 simp only[Tryz.ntmps49,List.size_toArray,List.length_cons,List.length_nil,Nat.reduceAdd,Nat.reduceSub,Array.replicate_succ,Array.replicate_zero,List.push_toArray,List.append_toArray,List.nil_append,List.cons_append]
 have hrec : dW (c₀ :: cs) = (.iface 103 (.agg #[.int .i64 a, .int .i64 b]), { c₀ with mode := .panicking ({ v := .iface 103 (.agg #[.int .i64 a, .int .i64 b]), recovered := true } :: []) } :: cs) := by
  simp[dW,recoverD,hu]
 apply wpS_seq
 refine bO rfl rfl ?_
 rw[hrec]
 have HU:=Lib.hid hu
 clear hrec hu
 have HI:=Lib.hid (And.intro hP (And.intro hQ hR))
 have hlt:p<w.heap.size:=by rcases Nat.lt_or_ge p w.heap.size with h|h;exact h;simp[h] at hP
 have hlo:q<w.heap.size:=by rcases Nat.lt_or_ge q w.heap.size with h|h;exact h;simp[h] at hQ
 have hlf:r<w.heap.size:=by rcases Nat.lt_or_ge r w.heap.size with h|h;exact h;simp[h] at hR
 clear hP hQ hR
 go_wp2
 simp only[Exit.thenS]
 refine wpS_of_wp (wp_mono (Q:=Uo w p q r a b) ?_ ?_)
 · go_wp2
   go_region
   obtain⟨hP,hQ,hR⟩:=HI.out
   refine⟨rfl,rfl,?_,?_,?_,?_⟩
   · rw [fE, Below.heap_alloc _ _ _ (by simp [World.setCell]; omega), Below.heap_setCell _ _ _ _ (by simpa using hpr), Below.heap_setCell _ _ _ _ (by simpa using hpq)]
     exact set1 hP _
   · rw [fE, Below.heap_alloc _ _ _ (by simp [World.setCell]; omega), Below.heap_setCell _ _ _ _ (by simpa using hqr)]
     refine set1 (a:=x) ?_ _
     rw[Below.heap_setCell _ _ _ _ (by simpa using fun e=>hpq e.symm)]
     exact hQ
   · rw [fE, Below.heap_alloc _ _ _ (by simp [World.setCell]; omega)]
     refine set1 (a:=y) ?_ _
     rw[Below.heap_setCell _ _ _ _ (by simpa using fun e=>hqr e.symm),Below.heap_setCell _ _ _ _ (by simpa using fun e=>hpr e.symm)]
     exact hR
   · intro k h1 h2 h3 h4
     exact(((((Below.refl k w).setCell h1 _).setCell h2 _).setCell h3 _).alloc (by simp[World.setCell];exact h4) _).drew
 · rintro e a w' ⟨rfl, hdf, h1, h2, h3, h4⟩
   refine⟨hdf,_,rfl,.tuple #[],?_,rfl,rfl,h1,h2,h3,h4⟩
   exact results_none rfl _ _ _
theorem IU (p q r:Nat) (w:World) :
 CallsD Tryz.prog 49 #[.pointer (some ⟨p,0,none⟩),.pointer (some ⟨q,0,none⟩),.pointer (some ⟨r,0,none⟩)] .returning w fun e u' w'=>
  e=.returned (.tuple #[])∧u'=.returning∧w'=w.alloc (.cells #[.int .i64 0,.int .i64 0] 103):=by
 have ta:∀w,(Instr.typeAssert .nilIface 20 103 true).run Tryz.prog w=.ok (.tuple #[.agg #[.int .i64 0,.int .i64 0],.bool false]) w:=fun w=>by kernel_rfl
 refine callsD_of_wpS Tryz.func49 rfl fun c₀ cs hu=>?_
 simp only[Tryz.ntmps49,List.size_toArray,List.length_cons,List.length_nil,Nat.reduceAdd,Nat.reduceSub,Array.replicate_succ,Array.replicate_zero,List.push_toArray,List.append_toArray,List.nil_append,List.cons_append]
 have hrec:dW (c₀::cs)=(.nilIface,c₀::cs):=by
  simp[dW,recoverD,hu]
 apply wpS_seq
 refine bO rfl rfl ?_
 rw[hrec]
 have HU:=Lib.hid hu
 clear hrec hu
 go_wp2
 simp only[Exit.thenS]
 refine wpS_of_wp (wp_mono (Q:=fun x a w'=>x=.normal∧a.defers=[]∧w'=w.alloc (.cells #[.int .i64 0,.int .i64 0] 103)) ?_ ?_)
 · go_wp2
 · rintro e a w' ⟨rfl, hdf, rfl⟩
   exact⟨hdf,.returning,by have:=HU.out;cases c₀;simp_all,.tuple #[],results_none rfl _ _ _,rfl,rfl,rfl⟩
def oC (s:ByteArray) (W:List (Nat×Wt)):List Value:=W.flatMap fun p=>iJ s p.1 p.2
theorem Kw (s:ByteArray) (A B:List (Nat×Wt)):oC s (A++B)=oC s A++oC s B:=by simp[oC]
def kF (s:ByteArray) (w:World) (e:Ending) (w':World):Prop:=
 match rs (sb s) with
 | .bad c a=>e=.returned (.tuple #[.slice none 0 0,.int .i64 c,.int .i64 a])∧Below w.heap.size w w'
 | .ok W=>∃u,e=.returned (.tuple #[u,.int .i64 0,.int .i64 0])∧w'.ownsRow w.heap.size 72 3 u W.length (oC s W)∧Below w.heap.size w w'
theorem CQ {s:ByteArray} {w w':World} {e:Ending} {c:Int} {a:Nat} (h:rs (sb s)=.bad c a) (he:e=.returned (.tuple #[.slice none 0 0,.int .i64 c,.int .i64 a])) (hb:Below w.heap.size w w'):kF s w e w':=by
 unfold kF;rw[h];exact⟨he,hb⟩
theorem sW:∃i,Tryz.prog.info? 72=some i∧i.zero=some (.agg #[.int .i64 0,.string ⟨#[]⟩,.int .i64 0])∧i.size=3∧i.bytes=32:=info_parts (by kernel_rfl)
theorem lD (w:World) (o0 o1 o2:Obj) (W:World) (h:W=(((w.alloc o0).alloc o1).alloc o2)) :
 W.heap[w.heap.size]? = some o0∧W.heap[w.heap.size+1]? = some o1∧W.heap[w.heap.size+1+1]? = some o2∧W.heap.size=w.heap.size+1+1+1∧Below w.heap.size w W:=by
 subst h
 refine⟨?_,?_,?_,by simp,((((Below.refl _ _).alloc (Nat.le_refl _) _).alloc (by simp) _).alloc (by simp;omega) _)⟩
 · rw [Below.heap_alloc _ _ _ (by simp <;> omega), Below.heap_alloc _ _ _ (by simp)]
   exact heap_alloc_new w _
 · rw [Below.heap_alloc _ _ _ (by simp)]
   have:=heap_alloc_new (w.alloc o0) o1
   simpa using this
 · have := heap_alloc_new ((w.alloc o0).alloc o1) o2
   simpa using this
structure lV (w w':World) (u:Value):Prop where
 h0:w'.heap[w.heap.size]? = some (.cells #[u] 67 (0,0))
 h1:w'.heap[w.heap.size+1]? = some (.cells #[.int .i64 0] 3 (0,0))
 h2:w'.heap[w.heap.size+1+1]? = some (.cells #[.int .i64 0] 3 (0,0))
 aV:Below w.heap.size w w'
theorem lV.below {w a b:World} {u:Value} (h:lV w a u) (hs:w.heap.size+1+1<a.heap.size) (hb:Below a.heap.size a b):lV w b u:=
 ⟨by rw[hb.block _ (by omega)];exact h.h0,by rw[hb.block _ (by omega)];exact h.h1,by rw[hb.block _ (by omega)];exact h.h2,h.aV.trans (hb.mono h.aV.size)⟩
theorem OB (s:ByteArray) (w:World) (hs:s.size≤100000) (hl:4000<s.size):Calls Tryz.prog 21 #[.string s] w (kF s w):=by
 have ng:∀(fn:Fn) (first cap:Array Value) (w:World),(Instr.makeFunc fn first cap).run Tryz.prog w=.ok (.func fn first cap) w:=fun _ _ _ _=>rfl
 have hr:rs (sb s)=.bad 6 0:=by unfold rs;rw[if_pos (by rw[bg];exact hl)]
 have HR:=Lib.hid hr
 obtain⟨W3,hW3⟩:∃W3,W3=(((w.alloc (.cells #[.slice none 0 0] 67)).alloc (.cells #[.int .i64 0] 3)).alloc (.cells #[.int .i64 0] 3)):=⟨_,rfl⟩
 obtain⟨g0,g1,g2,g3,g4⟩:=lD w _ _ _ W3 hW3
 have HG:=Lib.hid (And.intro hW3 (And.intro g0 (And.intro g1 (And.intro g2 (And.intro g3 g4)))))
 clear hr hW3 g0 g1 g2 g3 g4
 go_enter_defers Tryz.func21,Tryz.ntmps21
 go_wp2
 obtain⟨hW3,g0,g1,g2,g3,g4⟩:=HG.out
 rw[←hW3]
 refine leaves_cons (f:=49) (args:=#[.pointer (some ⟨w.heap.size,0,none⟩),.pointer (some ⟨w.heap.size+1,0,none⟩),.pointer (some ⟨w.heap.size+1+1,0,none⟩)]) (by simp) (by simp[go_sem]) ?_
 refine(sV _ _ _ 6 0 _ _ _ W3 g0 g1 g2 (by omega) (by omega) (by omega)).mono ?_
 rintro e u' w7 ⟨rfl,rfl,K0,K1,K2,eU⟩
 have jS:Below w.heap.size w w7:=g4.trans (eU _ (Nat.le_refl _) (by omega) (by omega) (by omega))
 obtain⟨c0,z0⟩:=aj K0
 obtain⟨c1,z1⟩:=aj K1
 obtain⟨c2,z2⟩:=aj K2
 simp[Leaves,settle,results,Tryz.results21,go_sem,c0,c1,c2]
 exact CQ HR.out rfl jS
theorem Xp (l:List Int):fb l≤l.length:=by
 unfold fb
 cases hf:(all 0 l).find? (·.2.bad) with
 | none=>exact Nat.le_refl _
 | some p =>
  have hm:=List.mem_of_find?_eq_some hf
  have:∀a l,∀p∈all a l,p.1<a+l.length:=by
   have:∀n a (l:List Int),l.length≤n→∀p∈all a l,p.1<a+l.length:=by
    intro n
    induction n with
    | zero=>intro a l h p hp;have:l=[]:=List.eq_nil_of_length_eq_zero (by omega);subst this;rw[all_nil] at hp;simp at hp
    | succ n ih =>
     intro a l h p hp
     by_cases hl:l=[]
     · subst hl;rw[all_nil] at hp;simp at hp
     · rw [all_cons a l hl, List.mem_cons] at hp
       have h1:=(mU l).1
       have h2:=(mU l).2.2 hl
       rcases hp with rfl|hp
       · simp;omega
       · have := ih _ _ (by rw [List.length_drop]; omega) p hp
         rw[List.length_drop] at this
         omega
   exact fun a l=>this l.length a l (Nat.le_refl _)
  have:=this 0 l p hm
  simp only;omega
structure uE (s:ByteArray) (w wr:World) (q a:Nat) (u:Value) (W:List (Nat×Wt)):Prop where
 le:a≤s.size
 hold:lV w wr u
 lo:w.heap.size+1+1<q
 hi:q<wr.heap.size
 bad:wr.heap[q]? = some (.cells #[.int .i64 (fb (sb s):Int)] 3 (0,0))
 own:wr.ownsRow (q+1) 72 3 u W.length (oC s W)
 len:W.length≤a
 sc:Wd.sc 0 (sb s)=(W++(Wd.sc a ((sb s).drop a)).1,(Wd.sc a ((sb s).drop a)).2)
theorem Sr {l:List Int} (hl:¬4000<l.length) {a:Nat} (h:(sc 0 l).2=some a):rs l=.bad 2 (min a (fb l)):=by
 unfold rs;rw[if_neg hl,h]
theorem Uq {l:List Int} (hl:¬4000<l.length) (h:(sc 0 l).2=none) (hf:fb l<l.length):rs l=.bad 2 (fb l):=by
 unfold rs;rw[if_neg hl,h];simp only[if_pos hf]
theorem QF {l:List Int} (hl:¬4000<l.length) (h:(sc 0 l).2=none) (hf:¬fb l<l.length):rs l=.ok (sc 0 l).1:=by
 unfold rs;rw[if_neg hl,h];simp only[if_neg hf]
theorem lV.grown {w a b:World} {u:Value} {row:Option Nat} (h:lV w a u) (hs:w.heap.size+1+1<a.heap.size) (hg:a.grownBy b row) (hr:∀j,row=some j→w.heap.size+1+1<j):lV w b u:=
 ⟨by rw [hg.block _ (by omega) (fun e => by have := hr _ e.symm; omega)]; exact h.h0, by rw [hg.block _ (by omega) (fun e => by have := hr _ e.symm; omega)]; exact h.h1, by rw [hg.block _ (by omega) (fun e => by have := hr _ e.symm; omega)]; exact h.h2,
  h.aV.grown hg h.aV.size (fun j hj=>by have:=hr j hj;omega)⟩
theorem lV.set {w a:World} {u:Value} (h:lV w a u) (v:Value):lV w (a.setCell ⟨w.heap.size,0,none⟩ v) v:=
 ⟨set1 h.h0 v,by rw[Below.heap_setCell _ _ _ _ (by simp)];exact h.h1,by rw[Below.heap_setCell _ _ _ _ (by simp;omega)];exact h.h2,h.aV.setCell (Nat.le_refl _) _⟩
theorem aX {w:World} {base size n p i:Nat} {e:TypeId} {v x:Value} {xs:List Value} (h:w.ownsRow base e size v n xs) (hp:p<base):(w.setCell ⟨p,i,none⟩ x).ownsRow base e size v n xs:=by
 obtain⟨h1,⟨rfl,rfl⟩|⟨g,cap,cur,rfl,hg,hb,hr⟩⟩:=h
 · exact⟨h1,.inl ⟨rfl,rfl⟩⟩
 · exact⟨h1,.inr ⟨g,cap,cur,rfl,hg,by rw[Below.heap_setCell _ _ _ _ (by simp;omega)];exact hb,hr⟩⟩
theorem uE.skip {s:ByteArray} {w wr w2:World} {q a:Nat} {u:Value} {W:List (Nat×Wt)} {x:Wt} (h:uE s w wr q a u W) (hx:wd ((sb s).drop a)=some x) (hk:x.k=0) (hb:Below wr.heap.size wr w2):uE s w w2 q (a+x.z) u W:=by
 have h1:=kr hx
 have h2:=h1.2.1
 rw[List.length_drop,bg] at h2
 have hle:=h.le
 refine⟨by omega,h.hold.below (by have:=h.lo;have:=h.hi;omega) hb,h.lo,Nat.lt_of_lt_of_le h.hi hb.size,by rw[hb.block _ h.hi];exact h.bad,bS h.own hb,Nat.le_trans h.len (by omega),?_⟩
 rw[h.sc,rY hx,if_pos hk,List.drop_drop]
theorem uE.push {s:ByteArray} {w wr w2:World} {q a:Nat} {u v:Value} {W:List (Nat×Wt)} {x:Wt} (h:uE s w wr q a u W) (hx:wd ((sb s).drop a)=some x) (hk:x.k≠0) (hh:lV w w2 u) (hq:w2.heap[q]? = some (.cells #[.int .i64 (fb (sb s):Int)] 3 (0,0)))
 (hown:w2.ownsRow (q+1) 72 3 v (W.length+1) (oC s W++iJ s a x)):uE s w (w2.setCell ⟨w.heap.size,0,none⟩ v) q (a+x.z) v (W++[(a,x)]):=by
 have h1:=kr hx
 have h2:=h1.2.1
 rw[List.length_drop,bg] at h2
 have hle:=h.le
 have hlo:=h.lo
 have qR:q<w2.heap.size:=by
  rcases Nat.lt_or_ge q w2.heap.size with h3|h3
  · exact h3
  · rw[Array.getElem?_eq_none h3] at hq;cases hq
 refine⟨by omega,hh.set v,hlo,by simpa [World.setCell] using qR,by rw[Below.heap_setCell _ _ _ _ (by simp;omega)];exact hq,?_,?_,?_⟩
 · have := aX (i := 0) (x := v) (p := w.heap.size) hown (by omega)
   rw[Kw,List.length_append]
   simpa [oC] using this
 · have:=h.len;simp;omega
 · rw[h.sc,rY hx,if_neg hk,List.drop_drop];simp
theorem Sv (w:World) (a b c:Value) (t:TypeId) (B:Nat) (hB:w.heap.size=B):Row (w.alloc (.cells #[a,b,c] t)) (.slice (some ⟨B,0,none⟩) 1 1) 1 [a,b,c]:=by
 subst hB
 have h1:=World.ownsRow_lit (e:=t) (base:=w.heap.size) (size:=3) w #[a,b,c] 1 (Nat.le_refl _) (by decide) (by simp)
 simpa using Row.owned h1
theorem L6 (s:ByteArray) (w:World) (hl:s.size≤4000):Calls Tryz.prog 21 #[.string s] w (kF s w):=by
 have ng:∀(fn:Fn) (first cap:Array Value) (w:World),(Instr.makeFunc fn first cap).run Tryz.prog w=.ok (.func fn first cap) w:=fun _ _ _ _=>rfl
 obtain⟨ii,hi,hz0,hz1,hz2⟩:=sW
 have hfl:=Xp (sb s)
 have zB:¬4000<(sb s).length:=by rw[bg];omega
 rw[bg] at hfl
 have hd4:decide ((4000:Int)<(s.size:Int))=false:=by simp;omega
 obtain⟨W3,hW3⟩:∃W3,W3=(((w.alloc (.cells #[.slice none 0 0] 67)).alloc (.cells #[.int .i64 0] 3)).alloc (.cells #[.int .i64 0] 3)):=⟨_,rfl⟩
 obtain⟨g0,g1,g2,g3,g4⟩:=lD w _ _ _ W3 hW3
 have HG:=Lib.hid (And.intro hW3 (And.intro g0 (And.intro g1 (And.intro g2 (And.intro g3 g4)))))
 clear hW3 g0 g1 g2 g3 g4
 have Ur:=Lib.hid zB
 clear zB
 go_enter_defers Tryz.func21,Tryz.ntmps21
 go_wp2_with fail
 obtain⟨hW3,g0,g1,g2,g3,g4⟩:=HG.out
 rw[←hW3]
 refine(Fp s W3 (by omega)).mono ?_
 rintro e w4 ⟨rfl,hb4⟩
 have bQ:lV w w4 (.slice none 0 0):=lV.below ⟨g0,g1,g2,g4⟩ (by omega) hb4
 have lF:=hb4.size
 obtain⟨Q,hQ⟩:∃Q,Q=w4.heap.size:=⟨_,rfl⟩
 have hat:uE s w (w4.alloc (.cells #[.int .i64 (fb (sb s):Int)] 3)) Q 0 (.slice none 0 0) []:=
  ⟨Nat.zero_le _,bQ.below (by omega) (ah (Below.refl _ _) _),by omega,by rw[hQ];simp,by rw[hQ];exact heap_alloc_new _ _,World.ownsRow_nil _ _ _ _,Nat.zero_le _,by simp⟩
 have HA:=Lib.hid hat
 have HQ:=Lib.hid hQ
 clear g0 g1 g2 g3 g4 hb4 bQ hat hW3 hQ lF HG
 go_wp2_with fail
 rw[←HQ.out]
 obtain⟨W5,bT⟩:∃W5,W5=w4.alloc (.cells #[.int .i64 (fb (sb s):Int)] 3):=⟨_,rfl⟩
 rw[←bT] at HA ⊢
 clear HQ bT
 go_loopw [7] (fun n wr=>∃(a:Nat) (u:Value) (W:List (Nat×Wt)),n=.int .i64 a∧uE s w wr Q a u W) (fun n _=>s.size-(intOf n).toNat)
 case atStart=>exact⟨0,_,[],rfl,HA.out⟩
 case round=>
  obtain⟨a,u,W,rfl,hat⟩:=hrel
  obtain⟨wo,rfl⟩:∃wo:World,wo=wr:=⟨_,rfl⟩
  have HT:=Lib.hid hat
  have abf:=hat.le
  have hlen:=hat.len
  clear hat HA
  by_cases hlt:a<s.size
  · go_wp2_with fail
    refine(Fq s a (fb (sb s)) Q wo (by omega) hlt HT.out.bad).mono ?_
    rintro e w1 (⟨x,hx,rfl,hb1⟩|⟨hx,rfl,hb1⟩)
    · have hwk := kr hx
      have hzl:=hwk.2.1
      rw[List.length_drop,bg] at hzl
      by_cases hk:x.k=0
      · have hsk := HT.out.skip hx hk (ah hb1 (.cells (iJ s a x).toArray 72))
        obtain⟨k,o,n,z⟩:=x
        simp only at hk hsk hwk hzl
        subst hk
        simp only[iJ,if_true] at hsk ⊢
        have HS:=Lib.hid hsk
        have hz1':=hwk.1
        clear hsk hwk hx hb1
        go_wp2
        go_roundw
        case rel=>exact⟨a+z,u,W,by go_num,HS.out⟩
        case measure=>simp[intOf];omega
      · have hown1 := bS HT.out.own hb1
        have hq1:w1.heap[Q]? = some (.cells #[.int .i64 (fb (sb s):Int)] 3 (0,0)):=by rw[hb1.block _ HT.out.hi];exact HT.out.bad
        have bK:=HT.out.hold.below (by have:=HT.out.lo;have:=HT.out.hi;omega) hb1
        have hlo:=HT.out.lo
        have qR:Q<w1.heap.size:=Nat.lt_of_lt_of_le HT.out.hi hb1.size
        obtain⟨ou,cu,rfl⟩:=au hown1
        have hpush:=fun v w2=>HT.out.push (v:=v) (w2:=w2) hx hk
        obtain⟨k,o,n,z⟩:=x
        simp only at hk hpush hwk hzl
        simp only[iJ,if_neg hk] at hpush ⊢
        obtain⟨c0,z0⟩:=aj bK.h0
        have oD:w.heap.size<w1.heap.size:=by omega
        have hz6:w.heap.size<w1.heap.size+1:=by omega
        have hkk:(k != 0)=true:=by simpa using hk
        have hz1':=hwk.1
        have HP:=Lib.hid hpush
        have H1:=Lib.hid (And.intro bK hq1)
        clear hpush hwk hx hb1 hq1 bK hk
        go_wp2_with (at_builtin;refine bB _ rfl _ _ 67 rfl (Q+1) 72 ii (.agg #[.int .i64 0,.string ⟨#[]⟩,.int .i64 0]) 3 32 Tryz.underlying67 hi hz0 hz1 hz2 rfl (by decide) (.slice ou W.length cu) W.length (oC s W) rfl ?hown _ 1 [.int .i64 k,.string (s.extract (a+o) (a+o+n)),.int .i64 a] rfl ?hrow rfl ?hone ?h63 ?hby ?hbase ?_)
        case hown=>exact(hown1.alloc _).alloc _
        case hrow=>exact Sv _ _ _ _ _ _ (by simp)
        case hone=>simp[Value.oneCell']
        case h63=>unfold maxLen;omega
        case hby=>omega
        case hbase=>simp<;>omega
        intro v' w2 hown2 hgrow2
        have hr2:∀j,(Value.slice ou W.length cu).ownBlock=some j→Q+1≤j:=fun j hj=>(hown1.lt j hj).1
        have l7:=((H1.out.1.below (by omega) (ah (ah (Below.refl _ _) (.cells #[.int .i64 k,.string (s.extract (a+o) (a+o+n)),.int .i64 a] 72)) (.cells #[.int .i64 k,.string (s.extract (a+o) (a+o+n)),.int .i64 a] 72)))).grown (by simp<;>omega) hgrow2 (fun j hj=>by have:=hr2 j hj;omega)
        have hq2:w2.heap[Q]? = some (.cells #[.int .i64 (fb (sb s):Int)] 3 (0,0)):=by
         rw[hgrow2.block _ (by simp<;>omega) (fun e=>by have:=hr2 Q e.symm;omega),Below.heap_alloc _ _ _ (by simp<;>omega),Below.heap_alloc _ _ _ (by omega)]
         exact H1.out.2
        obtain⟨d0,y0⟩:=aj l7.h0
        obtain⟨o2,c2,rfl⟩:=au hown2
        have HN:=Lib.hid (HP.out _ w2 l7 hq2 hown2)
        clear hgrow2 hown2 l7 hq2 hr2 hown1 c0 z0
        go_wp2
        go_roundw
        case rel=>exact⟨a+z,_,_,by go_num,HN.out⟩
        case measure=>simp[intOf];omega
    · have bK := HT.out.hold.below (by have := HT.out.lo; have := HT.out.hi; omega) hb1
      have QG:(sc 0 (sb s)).2=some a:=by rw[HT.out.sc,vD (by rw[gy s a hlt];simp) hx]
      have hr:=Sr Ur.out QG
      have oD:w.heap.size+1+1<w1.heap.size:=by have:=HT.out.lo;have:=HT.out.hi;have:=hb1.size;omega
      have HX:=Lib.hid (And.intro bK (And.intro hr oD))
      clear QG hr bK hb1 hx oD
      go_wp2
      obtain⟨bK,hr,oD⟩:=HX.out
      refine leaves_cons (f:=49) (args:=#[.pointer (some ⟨w.heap.size,0,none⟩),.pointer (some ⟨w.heap.size+1,0,none⟩),.pointer (some ⟨w.heap.size+1+1,0,none⟩)]) (by simp) (by simp[go_sem]) ?_
      refine(sV _ _ _ 2 (min (a:Int) (fb (sb s))) _ _ _ w1 bK.h0 bK.h1 bK.h2 (by omega) (by omega) (by omega)).mono ?_
      rintro e u' w7 ⟨rfl,rfl,K0,K1,K2,eU⟩
      have jS:Below w.heap.size w w7:=bK.aV.trans (eU _ (Nat.le_refl _) (by omega) (by omega) (by omega))
      obtain⟨c0,z0⟩:=aj K0
      obtain⟨c1,z1⟩:=aj K1
      obtain⟨c2,z2⟩:=aj K2
      simp[Leaves,settle,results,Tryz.results21,go_sem,c0,c1,c2]
      exact CQ hr (by rw[show((min a (fb (sb s)):Nat):Int)=min (a:Int) (fb (sb s)) from by omega]) jS
  · have han : a = s.size := by omega
    subst han
    have hd:(sb s).drop s.size=[]:=by rw[List.drop_eq_nil_iff,bg];omega
    have hsc:=HT.out.sc
    rw[hd,qO,List.append_nil] at hsc
    have hh:=HT.out.hold
    obtain⟨cq,zq⟩:=aj HT.out.bad
    have oD:w.heap.size+1+1<wo.heap.size:=by have:=HT.out.lo;have:=HT.out.hi;omega
    by_cases hbad:fb (sb s)<s.size
    · have hr := Uq Ur.out (by rw [hsc]) (by rw [bg]; exact hbad)
      have HX:=Lib.hid (And.intro hh (And.intro hr oD))
      have hdd:decide ((fb (sb s):Int)<(s.size:Int))=true:=by simp;omega
      clear hr hh hsc hd oD
      go_wp2_with fail
      refine(wB Q (fb (sb s)) (fb (sb s)) _ HT.out.bad).mono ?_
      rintro e w' ⟨rfl,rfl⟩
      go_wp2
      obtain⟨bK,hr,oD⟩:=HX.out
      refine leaves_cons (f:=49) (args:=#[.pointer (some ⟨w.heap.size,0,none⟩),.pointer (some ⟨w.heap.size+1,0,none⟩),.pointer (some ⟨w.heap.size+1+1,0,none⟩)]) (by simp) (by simp[go_sem]) ?_
      refine(sV _ _ _ 2 (fb (sb s):Int) _ _ _ wo bK.h0 bK.h1 bK.h2 (by omega) (by omega) (by omega)).mono ?_
      rintro e u' w7 ⟨rfl,rfl,K0,K1,K2,eU⟩
      have jS:Below w.heap.size w w7:=bK.aV.trans (eU _ (Nat.le_refl _) (by omega) (by omega) (by omega))
      obtain⟨c0,z0⟩:=aj K0
      obtain⟨c1,z1⟩:=aj K1
      obtain⟨c2,z2⟩:=aj K2
      simp[Leaves,settle,results,Tryz.results21,go_sem,c0,c1,c2]
      exact CQ hr rfl jS
    · have hr := QF Ur.out (by rw [hsc]) (by rw [bg]; exact hbad)
      rw[hsc] at hr
      simp only at hr
      have hown:=HT.out.own
      obtain⟨ou,cu,rfl⟩:=au hown
      have HX:=Lib.hid (And.intro hh (And.intro hr (And.intro oD hown)))
      have hdd:decide ((fb (sb s):Int)<(s.size:Int))=false:=by simp;omega
      obtain⟨c0,z0⟩:=aj hh.h0
      obtain⟨c1,z1⟩:=aj hh.h1
      obtain⟨c2,z2⟩:=aj hh.h2
      clear hr hh hsc hd oD hown
      go_wp2
      obtain⟨bK,hr,oD,hown⟩:=HX.out
      obtain⟨W8,dG⟩:∃W8,W8=((wo.setCell ⟨w.heap.size,0,none⟩ (.slice ou W.length cu)).setCell ⟨w.heap.size+1,0,none⟩ (.int .i64 0)).setCell ⟨w.heap.size+1+1,0,none⟩ (.int .i64 0):=⟨_,rfl⟩
      rw[←dG]
      have aZ:lV w W8 (.slice ou W.length cu):=by
       rw[dG]
       refine⟨?_,?_,?_,((bK.aV.setCell (Nat.le_refl _) _).setCell (by simp) _).setCell (by simp;omega) _⟩
       · rw[Below.heap_setCell _ _ _ _ (by simp;omega),Below.heap_setCell _ _ _ _ (by simp)];exact set1 bK.h0 _
       · rw[Below.heap_setCell _ _ _ _ (by simp)];refine set1 (a:=.int .i64 0) ?_ _;rw[Below.heap_setCell _ _ _ _ (by simp)];exact bK.h1
       · refine set1 (a:=.int .i64 0) ?_ _;rw[Below.heap_setCell _ _ _ _ (by simp),Below.heap_setCell _ _ _ _ (by simp;omega)];exact bK.h2
      have fZ:W8.ownsRow (Q+1) 72 3 (.slice ou W.length cu) W.length (oC s W):=by
       have hlo:=HT.out.lo
       rw[dG]
       exact aX (aX (aX hown (by omega)) (by omega)) (by omega)
      have iK:w.heap.size+1+1<W8.heap.size:=by rw[dG];simpa [World.setCell] using oD
      clear dG
      refine leaves_cons (f:=49) (args:=#[.pointer (some ⟨w.heap.size,0,none⟩),.pointer (some ⟨w.heap.size+1,0,none⟩),.pointer (some ⟨w.heap.size+1+1,0,none⟩)]) (by simp) (by simp[go_sem]) ?_
      refine(IU _ _ _ _).mono ?_
      rintro e u' w'' ⟨rfl,rfl,rfl⟩
      have gB:=aZ.below iK (ah (Below.refl _ _) (.cells #[.int .i64 0,.int .i64 0] 103))
      have aI:=bS fZ (ah (Below.refl _ _) (.cells #[.int .i64 0,.int .i64 0] 103))
      obtain⟨W9,bP⟩:∃W9,W9=W8.alloc (.cells #[.int .i64 0,.int .i64 0] 103):=⟨_,rfl⟩
      rw[←bP] at gB aI ⊢
      clear bP c0 c1 c2 z0 z1 z2
      obtain⟨c0,z0⟩:=aj gB.h0
      obtain⟨c1,z1⟩:=aj gB.h1
      obtain⟨c2,z2⟩:=aj gB.h2
      simp[Leaves,settle,results,Tryz.results21,go_sem,c0,c1,c2]
      unfold kF
      rw[hr]
      have hlo:=HT.out.lo
      exact⟨_,rfl,ji aI (by omega),gB.aV⟩
theorem nG (s:ByteArray) (w:World) (hs:s.size≤100000):Calls Tryz.prog 21 #[.string s] w (kF s w):=by
 by_cases h:4000<s.size
 · exact OB s w hs h
 · exact L6 s w (by omega)
namespace Wd
abbrev Its:=List (Nat×It)
def pk (L:Its) (k:Nat):Int:=match L[k]? with|some p=>if p.2.bad=true then -1 else p.2.r|none=>-1
def aA (L:Its) (n k:Nat):Nat:=match L[k]? with|some p=>p.1|none=>n
theorem pq {L:Its} {k:Nat} (h:¬k<L.length):pk L k=-1:=by unfold pk;rw[List.getElem?_eq_none (by omega)]
end Wd
structure CI (w:World) (p:Nat) (L:Its) (k n:Nat) (v:Value):Prop where
 hh:w.heap[p]? = some (.cells #[v,.int .i64 k,.int .i64 n] 235 (0,0))
 row:Row w v L.length (lM L)
 far:∀b off cap,v=.slice (some ⟨b,off,none⟩) L.length cap→b≠p
 le:k≤L.length
 small:L.length≤1000000
theorem CI.moved {w w':World} {p k n:Nat} {L:Its} {v:Value} (h:CI w p L k n v) (hb:Below w.heap.size w w'):CI w' p L k n v:=
 ⟨by rw[hb.block p (by rcases Nat.lt_or_ge p w.heap.size with h1|h1;exact h1;have:=h.hh;rw[Array.getElem?_eq_none h1] at this;cases this)];exact h.hh,h.row.below hb,h.far,h.le,h.small⟩
theorem CI.drewN {w:World} {p k n:Nat} {L:Its} {v:Value} (h:CI w p L k n v) (q:Nat):CI (w.drewN q) p L k n v:=
 h.moved ⟨rfl,rfl,rfl,Nat.le_refl _,fun _ _=>rfl⟩
theorem CI.at {w : World} {p k n k' : Nat} {L : Its} {v : Value} (h : CI w p L k n v) (hk : k' ≤ L.length) : CI (w.setCell ⟨p, 1, none⟩ (.int .i64 k')) p L k' n v := by
 refine⟨?_,?_,h.far,hk,h.small⟩
 · have:=h.hh;simp[World.setCell,Array.getElem?_modify,this]
 · obtain ⟨o, cap, rfl, h1, h2, h3⟩ := h.row
   refine⟨o,cap,rfl,h1,h2,?_⟩
   rcases h3 with h3|⟨b,off,rfl,hb,hc⟩
   · exact .inl h3
   · refine .inr ⟨b, off, rfl, by simpa [World.setCell] using hb, fun j u hu => ?_⟩
     have hne:=h.far b off cap rfl
     rw[←hc j u hu]
     unfold World.cell?
     rw[Below.heap_setCell _ _ _ _ hne]
theorem qU (w:World) (a b:Nat):(w.drewN a).drewN b=w.drewN (a+b):=by unfold World.drewN;simp[Nat.add_assoc]
theorem r9 {a b:Int} (h:a=b):Ending.returned (.int .i32 a)=.returned (.int .i32 b):=by rw[h]
theorem l8 (p k n:Nat) (L:Its) (v:Value) (w:World) (h:CI w p L k n v) :
 Calls Tryz.prog 196 #[.pointer (some ⟨p,0,none⟩)] w fun e w'=>e=.returned (.int .i32 (pk L k))∧∃q,w'=w.drewN q:=by
 have hle:=h.le
 obtain⟨⟨c0,c1,c2⟩,f0,f1,f2⟩:=gD h.hh
 by_cases hk:k<L.length
 · obtain ⟨q, hq⟩ : ∃ q, L[k]? = some q := ⟨L[k], List.getElem?_eq_getElem hk⟩
   obtain⟨b1,Uk,k1,rfl,hb1,a0,a1,a2,a3,a4⟩:=h.row.item hq
   have e1:((k:Int) == (L.length:Int))=false:=by simp;omega
   have e2:(k == L.length)=false:=by simp;omega
   have hii:(0:Int)≤(k:Int):=by omega
   have hij:(k:Int)<(L.length:Int):=by omega
   cases hbad:q.2.bad with
   | true =>
    have hpk:pk L k=-1:=by unfold pk;rw[hq];simp[hbad]
    rw[hbad] at a3
    have HP:=Lib.hid hpk
    clear h hq hbad hpk
    go_enter Tryz.func196,Tryz.ntmps196
    go_wp2
    go_quiet (fail)
    go_wp2
    go_ret
    exact⟨r9 HP.out.symm,_,by first|rfl|exact qU _ _ _⟩
   | false =>
    have hpk:pk L k=q.2.r:=by unfold pk;rw[hq];simp[hbad]
    rw[hbad] at a3
    have HP:=Lib.hid hpk
    clear h hq hbad hpk
    go_enter Tryz.func196,Tryz.ntmps196
    go_wp2
    go_quiet (fail)
    go_wp2
    go_quiet (fail)
    go_wp2
    go_ret
    exact⟨r9 HP.out.symm,_,by first|rfl|exact qU _ _ _⟩
 · have hkn : k = L.length := by omega
   have hpk:=pq hk
   obtain⟨o,cap,rfl,_⟩:=h.row
   have HP:=Lib.hid hpk
   have e1:((k:Int) == (L.length:Int))=true:=by simp;omega
   have e2:(k == L.length)=true:=by simp;omega
   clear h hk hkn hpk
   go_enter Tryz.func196,Tryz.ntmps196
   go_wp2
   go_quiet (fail)
   go_wp2
   go_ret
   exact⟨r9 HP.out.symm,_,by first|rfl|exact qU _ _ _⟩
theorem oF (p k n:Nat) (L:Its) (v:Value) (w:World) (h:CI w p L k n v) :
 Calls Tryz.prog 200 #[.pointer (some ⟨p,0,none⟩)] w fun e w'=>e=xA 3 (aA L n k)∧∃q,w'=w.drewN q:=by
 have hle:=h.le
 obtain⟨⟨c0,c1,c2⟩,f0,f1,f2⟩:=gD h.hh
 by_cases hk:k<L.length
 · obtain ⟨q, hq⟩ : ∃ q, L[k]? = some q := ⟨L[k], List.getElem?_eq_getElem hk⟩
   obtain⟨b1,Uk,k1,rfl,hb1,a0,a1,a2,a3,a4⟩:=h.row.item hq
   have e1:decide ((k:Int)<(L.length:Int))=true:=by simp;omega
   have e2:decide (k<L.length)=true:=by simp;omega
   have hii:(0:Int)≤(k:Int):=by omega
   have hij:(k:Int)<(L.length:Int):=by omega
   have hpk:aA L n k=q.1:=by unfold aA;rw[hq]
   have HP:=Lib.hid hpk
   clear h hq hpk
   go_enter Tryz.func200,Tryz.ntmps200
   go_wp2
   go_quiet (fail)
   go_wp2
   go_quiet (fail)
   go_wp2
   exact⟨rfl,by rw[HP.out],_,by first|rfl|exact qU _ _ _⟩
 · obtain ⟨o, cap, rfl, _⟩ := h.row
   have hpk:aA L n k=n:=by unfold aA;rw[List.getElem?_eq_none (by omega)]
   have HP:=Lib.hid hpk
   have e1:decide ((k:Int)<(L.length:Int))=false:=by simp;omega
   have e2:decide (k<L.length)=false:=by simp;omega
   clear h hk hpk
   go_enter Tryz.func200,Tryz.ntmps200
   go_wp2
   go_quiet (fail)
   go_wp2
   exact⟨rfl,by rw[HP.out],_,by first|rfl|exact qU _ _ _⟩
end Go.Proofs.YtfkmajjgkdjncaaGreatDoor
