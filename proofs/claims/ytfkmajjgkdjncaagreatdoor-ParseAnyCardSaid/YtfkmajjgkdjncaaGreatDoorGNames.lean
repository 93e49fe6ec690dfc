/- Merged. -/
import Derived.Test.YtfkmajjgkdjncaaGreatDoorReMark
import Derived.Lib.OthersKept
import Derived.Laws.RangeAny
import Derived.Test.YtfkmajjgkdjncaaGreatDoorRecov
import Derived.Test.YtfkmajjgkdjncaaGreatDoorPtShaped
import Derived.Outline
import Derived.ChangeAlike
import Derived.BigRegion
import Derived.StillTail
set_option linter.unusedVariables false
set_option linter.unusedSimpArgs false
namespace Go.Proofs.YtfkmajjgkdjncaaGreatDoor
open Go.RowKit Ru
namespace PT
mutual
def same:PT→PT→Bool
 | .mk k n e l,f=>decide (k=f.kind) && (decide (n=f.names) && (decide (e=f.ends) && (decide (l.length=f.parts.length) && BO l f.parts)))
def BO:List PT→List PT→Bool
 | [],_=>true
 | a :: l, m => match m with
  | []=>true
  | b::m=>same a b && BO l m
end
end PT
end Go.Proofs.YtfkmajjgkdjncaaGreatDoor

set_option maxHeartbeats 8000000
set_option maxRecDepth 100000
namespace Go.Proofs.YtfkmajjgkdjncaaGreatDoor
open Go.RowKit Ru
structure TK where
 name:ByteArray
 kind:Int
 cls:Int
 re:RE
structure ST where
 calls:List ByteArray
 p:PT
structure RU where
 cls:Int
 free:Bool
 steps:List ST
theorem yA {α:Type} (f:α→List Value) (W:Nat) (hW:∀a,(f a).length=W):∀(l:List α) (i j:Nat) (a:α),l[i]? = some a→j<W→(l.flatMap f)[i*W+j]? = (f a)[j]?:=by
 intro l
 induction l with
 | nil=>intro i j a h;simp at h
 | cons x l ih =>
  intro i j a h hj
  rw[List.flatMap_cons]
  cases i with
  | zero=>simp at h;subst h;rw[Nat.zero_mul,Nat.zero_add,List.getElem?_append_left (by rw[hW];exact hj)]
  | succ i =>
   rw[List.getElem?_append_right (by rw[hW,Nat.succ_mul];omega),hW,←ih i j a (by simpa using h) hj]
   congr 1
   rw[Nat.succ_mul];omega
def six (p:TK×Value×Value):List Value:=[.string p.1.name,.int .i64 p.1.kind,.int .i64 p.1.cls,.int .i64 p.1.re.kind,p.2.1,p.2.2]
def five (p:ST×Value×Value×Value×Value):List Value:=[p.2.1,.int .i64 p.1.p.kind,p.2.2.1,p.2.2.2.1,p.2.2.2.2]
def three (p:RU×Value):List Value:=[.int .i64 p.1.cls,.bool p.1.free,p.2]
def iO (w:World) (v:Value) (l:List TK):Prop:=∃ps:List (TK×Value×Value),ps.map (·.1)=l∧Row w v l.length (ps.flatMap six)∧∀(i:Nat) (p:TK×Value×Value),ps[i]? = some p→bI w p.1.re p.2.1 p.2.2
def jD (w:World) (v:Value) (l:List ST):Prop:=∃ps:List (ST×Value×Value×Value×Value),ps.map (·.1)=l∧Row w v l.length (ps.flatMap five) ∧
 ∀(i:Nat) (p:ST×Value×Value×Value×Value),ps[i]? = some p→Row w p.2.1 p.1.calls.length (strs p.1.calls)∧bU w p.1.p p.2.2.1 p.2.2.2.1 p.2.2.2.2
def jE (w:World) (v:Value) (l:List RU):Prop:=∃ps:List (RU×Value),ps.map (·.1)=l∧Row w v l.length (ps.flatMap three)∧∀(i:Nat) (p:RU×Value),ps[i]? = some p→jD w p.2 p.1.steps
theorem iO.moved {w w':World} {v:Value} {l:List TK} (h:iO w v l) (hb:Below w.heap.size w w'):iO w' v l:=by
 obtain⟨ps,h1,h2,h3⟩:=h;exact⟨ps,h1,h2.below hb,fun i p hp=>(h3 i p hp).moved hb⟩
theorem jD.moved {w w':World} {v:Value} {l:List ST} (h:jD w v l) (hb:Below w.heap.size w w'):jD w' v l:=by
 obtain⟨ps,h1,h2,h3⟩:=h;exact⟨ps,h1,h2.below hb,fun i p hp=>⟨(h3 i p hp).1.below hb,(h3 i p hp).2.moved hb⟩⟩
theorem jE.moved {w w':World} {v:Value} {l:List RU} (h:jE w v l) (hb:Below w.heap.size w w'):jE w' v l:=by
 obtain⟨ps,h1,h2,h3⟩:=h;exact⟨ps,h1,h2.below hb,fun i p hp=>(h3 i p hp).moved hb⟩
theorem iO.all {w:World} {v:Value} {l:List TK} (h:iO w v l):∃(o:Option Addr) (cap:Nat) (nm:Nat→ByteArray) (kd cl rk:Nat→Int) (so:Nat→Option Addr) (sn sc:Nat→Nat) (lo:Nat→Option Addr) (ln lc:Nat→Nat),v=.slice o l.length cap ∧
 ∀(i:Nat) (t:TK),l[i]? = some t→nm i=t.name∧kd i=t.kind∧cl i=t.cls∧rk i=t.re.kind∧bI w t.re (.slice (so i) (sn i) (sc i)) (.slice (lo i) (ln i) (lc i))∧∃b off,o=some ⟨b,off,none⟩∧b<w.heap.size ∧
  w.cell? ⟨b,off+i*6,none⟩=some (.string (nm i))∧w.cell? ⟨b,off+i*6+1,none⟩=some (.int .i64 (kd i))∧w.cell? ⟨b,off+i*6+2,none⟩=some (.int .i64 (cl i))∧w.cell? ⟨b,off+i*6+3,none⟩=some (.int .i64 (rk i))∧w.cell? ⟨b,off+i*6+4,none⟩=some (.slice (so i) (sn i) (sc i))∧w.cell? ⟨b,off+i*6+5,none⟩=some (.slice (lo i) (ln i) (lc i)):=by
 obtain⟨ps,rfl,hrow,hre⟩:=h
 have hrow2:=hrow
 obtain⟨o,cap,rfl,_⟩:=hrow2
 let g:Nat→TK×Value×Value:=fun i=>ps.getD i (⟨⟨#[]⟩,0,0,.mk 0 [] []⟩,.nilIface,.nilIface)
 refine⟨o,cap,fun i=>(g i).1.name,fun i=>(g i).1.kind,fun i=>(g i).1.cls,fun i=>(g i).1.re.kind,fun i=>MZ (g i).2.1,fun i=>M0 (g i).2.1,fun i=>M4 (g i).2.1,fun i=>MZ (g i).2.2,fun i=>M0 (g i).2.2,fun i=>M4 (g i).2.2,rfl,fun i t ht=>?_⟩
 rw[List.getElem?_map] at ht
 obtain⟨p,hp,rfl⟩:=Option.map_eq_some_iff.1 ht
 have hg:g i=p:=by show ps.getD i _=p;rw[List.getD,hp];rfl
 simp only[hg]
 have hi:i<ps.length:=(List.getElem?_eq_some_iff.1 hp).1
 obtain⟨b,off,cap',e,hb,hc⟩:=hrow.cells' (by simp;omega)
 simp only[Value.slice.injEq,true_and] at e
 obtain⟨rfl,rfl⟩:=e
 have hr:=hre i p hp
 obtain⟨⟨x1,y1,e1⟩,⟨x2,y2,e2⟩⟩:=hr.form
 have hget:∀j u,(six p)[j]? = some u→j<6→w.cell? ⟨b,off+(i*6+j),none⟩=some u:=fun j u hu hj=>hc _ _ (by rw[yA six 6 (fun _=>rfl) ps i j p hp hj];exact hu)
 have g4:=hget 4 _ rfl (by omega)
 have g5:=hget 5 _ rfl (by omega)
 rw[e1] at g4 hr
 rw[e2] at g5 hr
 rw[e1,e2]
 refine⟨trivial,trivial,trivial,trivial,hr,b,off,rfl,hb,hget 0 _ rfl (by omega),?_,?_,?_,?_,?_⟩
 · rw[Nat.add_assoc];exact hget 1 _ rfl (by omega)
 · rw[Nat.add_assoc];exact hget 2 _ rfl (by omega)
 · rw[Nat.add_assoc];exact hget 3 _ rfl (by omega)
 · rw[Nat.add_assoc];exact g4
 · rw[Nat.add_assoc];exact g5
def ku (l:List TK) (s:ByteArray):Int:=match l.findIdx? (fun t=>decide (t.name=s)) with|some i=>i|none=>-1
theorem M5 {l:List TK} {s:ByteArray} {i:Nat} {t:TK} (ht:l[i]? = some t) (he:t.name=s) (hno:∀j u,j<i→l[j]? = some u→u.name≠s):ku l s=i:=by
 have : l.findIdx? (fun t => decide (t.name = s)) = some i := by
  obtain⟨hi,hti⟩:=List.getElem?_eq_some_iff.1 ht
  rw[List.findIdx?_eq_some_iff_getElem]
  refine⟨hi,by rw[hti];simpa using he,fun j hj=>?_⟩
  have:=hno j l[j] hj (List.getElem?_eq_getElem (by omega))
  simpa using this
 unfold ku
 rw[this]
theorem K4 {l:List TK} {s:ByteArray} (hno:∀(j:Nat) (u:TK),l[j]? = some u→u.name≠s):ku l s=-1:=by
 have : l.findIdx? (fun t => decide (t.name = s)) = none := by
  rw[List.findIdx?_eq_none_iff]
  intro t ht
  obtain⟨j,hj,rfl⟩:=List.getElem_of_mem ht
  have:=hno j _ (List.getElem?_eq_getElem hj)
  simpa using this
 unfold ku
 rw[this]
theorem Gt (n:Nat) (o:Option Addr) (cap:Nat) (cap0:Value) (a0:Nat→ByteArray) (a1:Nat→Int) (a2:Nat→Int) (a3:Nat→Int) (VD:Nat→Option Addr) (VE VF:Nat→Nat) (VG:Nat→Option Addr) (VH VI:Nat→Nat) (St:Nat→World→Prop) (Fin:Nat→World→Prop) (w:World) (hn:n≤1000000)
 (hel:∀i,i<n→∃b off,o=some ⟨b,off,none⟩∧∀w',St i w'→w'.cell? ⟨b,off+i*6,none⟩=some (.string (a0 i))∧w'.cell? ⟨b,off+i*6+1,none⟩=some (.int .i64 (a1 i))∧w'.cell? ⟨b,off+i*6+2,none⟩=some (.int .i64 (a2 i))∧w'.cell? ⟨b,off+i*6+3,none⟩=some (.int .i64 (a3 i))∧w'.cell? ⟨b,off+i*6+4,none⟩=some (.slice (VD i) (VE i) (VF i))∧w'.cell? ⟨b,off+i*6+5,none⟩=some (.slice (VG i) (VH i) (VI i)))
 (hf:∀i w',i<n→St i w'→Calls Tryz.prog 125 #[.agg #[.string (a0 i),.int .i64 (a1 i),.int .i64 (a2 i),.int .i64 (a3 i),.slice (VD i) (VE i) (VF i),.slice (VG i) (VH i) (VI i)],cap0] w' fun e w''=>(e=.returned (.bool true)∧Fin i w'')∨(e=.returned (.bool false)∧St (i+1) w''))
 (h0:St 0 w) :
 Calls Tryz.prog 124 #[.slice o n cap,.func (Fn.func 125) #[] #[cap0]] w fun e w'=>(∃i:Nat,i<n∧e=.returned (.int .i64 i)∧Fin i w')∨(e=.returned (.int .i64 (-1))∧St n w'):=by
 have mF:=Lib.hid hel
 have HF:=Lib.hid hf
 clear hel hf
 go_enter Tryz.func124,Tryz.ntmps124
 go_wp2_with fail
 go_loopg [8] n (fun g i wx=>∃k:Nat,k+g=n∧i=.int .i64 k∧St k wx)
 case atStart=>exact⟨0,by omega,rfl,h0⟩
 case round=>
  obtain⟨k,hkg,rfl,hSt⟩:=hrel
  obtain⟨wo,rfl⟩:∃wo:World,wo=wr:=⟨_,rfl⟩
  cases gk with
  | zero =>
   obtain rfl:k=n:=by omega
   have hd:decide ((k:Int)<(k:Int))=false:=by simp
   have HS:=Lib.hid hSt
   clear hSt
   go_wp2
   go_ret
   exact .inr ⟨rfl,HS.out⟩
  | succ g =>
   have hk:k<n:=by omega
   have hd:decide ((k:Int)<(n:Int))=true:=by simp;omega
   have hk1:(0:Int)≤(k:Int):=by omega
   have hk2:(k:Int)<(n:Int):=by omega
   have jC:(k:Int)≤1000000:=by omega
   obtain⟨b,off,rfl,hcell⟩:=mF.out k hk
   have KK:=hcell wo hSt
   have hc:=HF.out k wo hk hSt
   obtain⟨xa0,VJ⟩:∃d,d=a0 k:=⟨_,rfl⟩
   rw[←VJ] at KK hc
   clear VJ
   obtain⟨xa1,VK⟩:∃d,d=a1 k:=⟨_,rfl⟩
   rw[←VK] at KK hc
   clear VK
   obtain⟨xa2,VL⟩:∃d,d=a2 k:=⟨_,rfl⟩
   rw[←VL] at KK hc
   clear VL
   obtain⟨xa3,VN⟩:∃d,d=a3 k:=⟨_,rfl⟩
   rw[←VN] at KK hc
   clear VN
   obtain⟨abj,Rf⟩:∃d,d=VD k:=⟨_,rfl⟩
   rw[←Rf] at KK hc
   clear Rf
   obtain⟨abk,Rh⟩:∃d,d=VE k:=⟨_,rfl⟩
   rw[←Rh] at KK hc
   clear Rh
   obtain⟨abl,Ri⟩:∃d,d=VF k:=⟨_,rfl⟩
   rw[←Ri] at KK hc
   clear Ri
   obtain⟨abm,Rj⟩:∃d,d=VG k:=⟨_,rfl⟩
   rw[←Rj] at KK hc
   clear Rj
   obtain⟨abn,Rk⟩:∃d,d=VH k:=⟨_,rfl⟩
   rw[←Rk] at KK hc
   clear Rk
   obtain⟨abo,Rl⟩:∃d,d=VI k:=⟨_,rfl⟩
   rw[←Rl] at KK hc
   clear Rl
   obtain⟨k0,k1,k2,k3,k4,k5⟩:=KK
   have HC:=Lib.hid hc
   clear hcell hSt hc
   go_wp2_with fail
   refine HC.out.mono ?_
   rintro e w2 (⟨rfl,hfin⟩|⟨rfl,hst⟩)
   · have HX := Lib.hid hfin
     clear hfin
     go_wp2
     go_ret
     exact .inl ⟨k,hk,rfl,HX.out⟩
   · have HX := Lib.hid hst
     clear hst
     go_wp2
     go_roundg g
     case measure=>omega
     case rel=>exact⟨k+1,by omega,by go_num,HX.out⟩
theorem M6 (q:Nat) (s nm:ByteArray) (kd cl rk:Int) (so lo:Option Addr) (sn sc ln lc:Nat) (w:World) (hq:w.heap[q]? = some (.cells #[.string s] 9 (0,0))) :
 Calls Tryz.prog 125 #[.agg #[.string nm,.int .i64 kd,.int .i64 cl,.int .i64 rk,.slice so sn sc,.slice lo ln lc],.pointer (some ⟨q,0,none⟩)] w fun x w'=>x=.returned (.bool (decide (nm=s)))∧Below w.heap.size w w':=by
 obtain⟨c0,f0⟩:=aj hq
 have hlt:=dK hq
 have hne:¬q=w.heap.size:=by omega
 obtain⟨r,hr⟩:∃r,r=decide (nm=s):=⟨_,rfl⟩
 have heq:(nm.toList == s.toList)=r:=by
  rw[hr]
  by_cases h:nm=s
  · subst h;simp
  · rw[Gu h,decide_eq_false h]
 rw[←hr]
 clear hr hq
 go_enter Tryz.func125,Tryz.ntmps125
 go_wp2_with fail
 go_ret
 exact⟨by rfl,ah (Below.refl _ _) _⟩
theorem yE (l:List TK) (tv rv:Value) (s:ByteArray) (w:World) (h:iO w tv l) (hl:l.length≤1000) (p8:∃o n c,rv=.slice o n c) :
 Calls Tryz.prog 97 #[.agg #[tv,rv],.string s] w fun x w'=>x=.returned (.int .i64 (ku l s))∧Below w.heap.size w w':=by
 obtain⟨o,cap,nm,kd,cl,rk,so,sn,sc,lo,ln,lc,rfl,hall⟩:=h.all
 obtain⟨o9,n9,c9,rfl⟩:=p8
 have ng:∀(fn:Fn) (first cap:Array Value) (w:World),(Instr.makeFunc fn first cap).run Tryz.prog w=.ok (.func fn first cap) w:=fun _ _ _ _=>rfl
 have hidx := fun (q : Nat) (w' : World) (hb : Below w.heap.size w w') (hq : w'.heap[q]? = some (.cells #[.string s] 9 (0, 0))) => Gt l.length o cap (.pointer (some ⟨q, 0, none⟩)) nm kd cl rk so sn sc lo ln lc
  (fun i w''=>Below w'.heap.size w' w''∧∀j u,j<i→l[j]? = some u→u.name≠s) (fun i w''=>Below w'.heap.size w' w''∧ku l s=i) w' (by omega)
  (fun i hi => by
   obtain⟨e1,e2,e3,e4,hr,b,off,ho,hbl,k0,k1,k2,k3,k4,k5⟩:=hall i _ (List.getElem?_eq_getElem hi)
   refine⟨b,off,ho,fun w'' hSt=>?_⟩
   have hbb:=ak hb hSt.1
   exact⟨(hbb.cell hbl).trans k0,(hbb.cell hbl).trans k1,(hbb.cell hbl).trans k2,(hbb.cell hbl).trans k3,(hbb.cell hbl).trans k4,(hbb.cell hbl).trans k5⟩)
  (fun i w1 hi hSt => by
   have ht:=List.getElem?_eq_getElem (l:=l) hi
   obtain⟨e1,e2,e3,e4,hr,-⟩:=hall i _ ht
   refine(M6 q s (nm i) _ _ _ _ _ _ _ _ _ w1 (aB hSt.1 hq)).mono ?_
   rintro x w3 ⟨rfl,hb3⟩
   rw[e1]
   by_cases hs:(l[i]).name=s
   · exact .inl ⟨by rw[decide_eq_true hs],ak hSt.1 hb3,M5 ht hs hSt.2⟩
   · refine .inr ⟨by rw [decide_eq_false hs], ak hSt.1 hb3, fun j u hj hu => ?_⟩
     rcases Nat.lt_or_ge j i with h|h
     · exact hSt.2 j u h hu
     · obtain rfl : j = i := by omega
       rw[ht] at hu;cases hu;exact hs)
  ⟨Below.refl _ _,fun j u hj=>by omega⟩
 have HI:=Lib.hid hidx
 clear hidx hall h
 go_enter Tryz.func97,Tryz.ntmps97
 go_wp2_with fail
 have hb0:∀(x y:Obj),Below w.heap.size w ((w.alloc x).alloc y):=fun x y=>ah (ah (Below.refl _ _) _) _
 refine(HI.out (w.heap.size+1) _ (by exact hb0 _ _) (by simpa using heap_alloc_new (w.alloc (.cells #[.slice o l.length cap,.slice o9 n9 c9] 26)) (.cells #[.string s] 9))).mono ?_
 rintro x w2 (⟨i,hi,rfl,hb2,hfi⟩|⟨rfl,hb2,hno⟩)
 · have HX := Lib.hid (And.intro (ak (hb0 _ _) hb2) hfi)
   clear hb2 hfi
   go_wp2_with fail
   go_ret
   exact⟨by rw[HX.out.2];rfl,HX.out.1⟩
 · have HX := Lib.hid (And.intro (ak (hb0 _ _) hb2) (K4 (l := l) (s := s) (fun j u hu => hno j u (List.getElem?_eq_some_iff.1 hu).1 hu)))
   clear hb2 hno
   go_wp2_with fail
   go_ret
   exact⟨by rw[HX.out.2];rfl,HX.out.1⟩
end Go.Proofs.YtfkmajjgkdjncaaGreatDoor

set_option maxHeartbeats 4000000
set_option maxRecDepth 100000
namespace Go.Proofs.YtfkmajjgkdjncaaGreatDoor
open Go.RowKit Ru
def rP (c:Nat):Bool:=(decide (97≤c) && decide (c≤122)) || (decide (48≤c) && decide (c≤57))
def K5 (s:ByteArray):Bool:=(s.toList == [116,111,107]) || (s.toList == [114,117,108,101]) || (s.toList == [105,110,116]) || (s.toList == [99,97,108,108]) || (s.toList == [114,101,116]) || (s.toList == [102,114,101,101])
def cK (s:ByteArray):Bool:=decide (1≤s.size) && (decide (s.size≤12) && (decide (97≤(s.get! 0).toNat) && (decide ((s.get! 0).toNat≤122) && (((List.range s.size).all fun i=>rP (s.get! i).toNat) && !K5 s))))
theorem get!_eq {s:ByteArray} {i:Nat} (h:i<s.size):s.get! i=s[i]:=by have:=Go.get_at s i h;simpa using this
theorem J3 {s:ByteArray} {i:Nat} (h:i<s.size) (hb:rP (s.get! i).toNat=false):cK s=false:=by
 have : ((List.range s.size).all fun i => rP (s.get! i).toNat) = false := by
  rw[List.all_eq_false]
  exact⟨i,List.mem_range.2 h,by rw[hb];simp⟩
 unfold cK
 rw[this]
 simp
theorem yD (s:ByteArray) (w:World) (hs:s.size≤1000) :
 Calls Tryz.prog 96 #[.string s] w fun e w'=>e=.returned (.bool (cK s))∧Below w.heap.size w w':=by
 by_cases h1:s.size<1
 · have d1 : decide ((s.size : Int) < 1) = true := by simp; omega
   have HX:=Lib.hid (show cK s=false by unfold cK;rw[decide_eq_false (by omega)];rfl)
   clear h1
   go_enter Tryz.func96,Tryz.ntmps96
   go_wp2_with fail
   go_ret
   exact⟨by rw[HX.out];rfl,Below.refl _ _⟩
 have d1:decide ((s.size:Int)<1)=false:=by simp;omega
 by_cases h2:12<s.size
 · have d2 : decide ((12 : Int) < (s.size : Int)) = true := by simp; omega
   have HX:=Lib.hid (show cK s=false by unfold cK;rw[decide_eq_false (show ¬s.size≤12 by omega)];simp)
   clear h1 h2
   go_enter Tryz.func96,Tryz.ntmps96
   go_wp2_with fail
   go_ret
   exact⟨by rw[HX.out];rfl,Below.refl _ _⟩
 have d2:decide ((12:Int)<(s.size:Int))=false:=by simp;omega
 have hl0:(0:Int)<(s.size:Int):=by omega
 have hp0:0<s.size:=by omega
 obtain⟨c,hc⟩:∃c,c=(s.get! 0).toNat:=⟨_,rfl⟩
 have hcs:(s[0]'hp0).toNat=c:=by rw[hc,get!_eq hp0]
 by_cases h3:c<97
 · have d3 : decide ((c : Int) < 97) = true := by simp; omega
   have HX:=Lib.hid (show cK s=false by unfold cK;rw[←hc,decide_eq_false (show ¬97≤c by omega)];simp)
   clear h1 h2 h3 hc
   go_enter Tryz.func96,Tryz.ntmps96
   go_wp2_with fail
   go_ret
   exact⟨by rw[HX.out];rfl,Below.refl _ _⟩
 have d3:decide ((c:Int)<97)=false:=by simp;omega
 by_cases h4:122<c
 · have d4 : decide ((122 : Int) < (c : Int)) = true := by simp; omega
   have HX:=Lib.hid (show cK s=false by unfold cK;rw[←hc,decide_eq_false (show ¬c≤122 by omega)];simp)
   clear h1 h2 h3 h4 hc
   go_enter Tryz.func96,Tryz.ntmps96
   go_wp2_with fail
   go_ret
   exact⟨by rw[HX.out];rfl,Below.refl _ _⟩
 have d4:decide ((122:Int)<(c:Int))=false:=by simp;omega
 have HN := Lib.hid (show cK s = (((List.range s.size).all fun i => rP (s.get! i).toNat) && !K5 s) by
  unfold cK;rw[←hc,decide_eq_true (show 1≤s.size by omega),decide_eq_true (show s.size≤12 by omega),decide_eq_true (show 97≤c by omega),decide_eq_true (show c≤122 by omega)];simp)
 clear h1 h2 h3 h4 hc
 go_enter Tryz.func96,Tryz.ntmps96
 go_wp2_with fail
 have HW:=Lib.hid (show ∀pos,Below w.heap.size w (w.iter s pos) from fun pos=>ah (Below.refl _ _) _)
 go_loopg [25] s.size (fun g u wx=>∃pos:Nat,s.size≤pos+g∧wx=w.iter s pos∧∀i,i<pos→i<s.size→rP (s.get! i).toNat=true)
 case atStart=>exact⟨0,by omega,rfl,fun i h=>by omega⟩
 case round=>
  obtain⟨pos,hg,rfl,hall⟩:=hrel
  have rC:=Lib.hid hall
  clear hall
  by_cases hp:pos<s.size
  · obtain ⟨b, hb⟩ : ∃ b, b = (s.get! pos).toNat := ⟨_, rfl⟩
    have hbs:(s[pos]'hp).toNat=b:=by rw[hb,get!_eq hp]
    by_cases hasc:b<128
    · have hnx : ∀ ty, (Instr.next (.pointer (some ⟨w.heap.size, 0, none⟩)) true ty).run Tryz.prog (w.iter s pos) = .ok (.tuple #[.bool true, .int .i64 pos, .int .i32 b]) (w.iter s (pos + 1)) := fun ty => by
       rw[run_next_ascii w s pos ty hp (by omega),hbs]
      cases gk with
      | zero=>omega
      | succ g =>
       have Yq := Lib.hid (show rP b = true → ∃ pos' : Nat, s.size ≤ pos' + g ∧ w.iter s (pos + 1) = w.iter s pos' ∧ ∀ i, i < pos' → i < s.size → rP (s.get! i).toNat = true from fun h => ⟨pos + 1, by omega, rfl, fun i hi hs => by
        rcases Nat.lt_or_ge i pos with h1|h1
        · exact rC.out i h1 hs
        · obtain rfl : i = pos := by omega
          rw[←hb];exact h⟩)
       have HBAD:=Lib.hid (show rP b=false→cK s=false from fun h=>J3 hp (by rw[←hb];exact h))
       have hb0:(0:Int)≤(b:Int):=by omega
       clear hb hbs
       by_cases t1:b<97
       · have u1 : decide ((b : Int) < 97) = true := by simp; omega
         by_cases t2:b<48
         · have u2 : decide ((b : Int) < 48) = true := by simp; omega
           have HX:=Lib.hid (HBAD.out (by unfold rP;rw[decide_eq_false (show ¬97≤b by omega),decide_eq_false (show ¬48≤b by omega)];rfl))
           clear t1 t2
           go_wp2_with fail
           go_ret
           exact⟨by rw[HX.out];rfl,HW.out _⟩
         have u2:decide ((b:Int)<48)=false:=by simp;omega
         by_cases t3:57<b
         · have u3 : decide ((57 : Int) < (b : Int)) = true := by simp; omega
           have HX:=Lib.hid (HBAD.out (by unfold rP;rw[decide_eq_false (show ¬97≤b by omega),decide_eq_false (show ¬b≤57 by omega)];simp))
           clear t1 t2 t3
           go_wp2_with fail
           go_ret
           exact⟨by rw[HX.out];rfl,HW.out _⟩
         have u3:decide ((57:Int)<(b:Int))=false:=by simp;omega
         have HX:=Lib.hid (Yq.out (by unfold rP;rw[decide_eq_true (show 48≤b by omega),decide_eq_true (show b≤57 by omega)];simp))
         clear t1 t2 t3
         go_wp2
         go_roundg g
         case measure=>omega
         case rel=>exact HX.out
       have u1:decide ((b:Int)<97)=false:=by simp;omega
       by_cases t2:122<b
       · have u2 : decide ((122 : Int) < (b : Int)) = true := by simp; omega
         have u3:decide ((b:Int)<48)=false:=by simp;omega
         have u4:decide ((57:Int)<(b:Int))=true:=by simp;omega
         have HX:=Lib.hid (HBAD.out (by unfold rP;rw[decide_eq_false (show ¬b≤122 by omega),decide_eq_false (show ¬b≤57 by omega)];simp))
         clear t1 t2
         go_wp2_with fail
         go_ret
         exact⟨by rw[HX.out];rfl,HW.out _⟩
       have u2:decide ((122:Int)<(b:Int))=false:=by simp;omega
       have HX:=Lib.hid (Yq.out (by unfold rP;rw[decide_eq_true (show 97≤b by omega),decide_eq_true (show b≤122 by omega)];simp))
       clear t1 t2
       go_wp2
       go_roundg g
       case measure=>omega
       case rel=>exact HX.out
    · have hd := decode_high s pos hp (by omega)
      obtain⟨r,hr⟩:∃r,r=(Utf8.decode s pos).1:=⟨_,rfl⟩
      obtain⟨wd,hwd⟩:∃r,r=(Utf8.decode s pos).2:=⟨_,rfl⟩
      have hnx : ∀ ty, (Instr.next (.pointer (some ⟨w.heap.size, 0, none⟩)) true ty).run Tryz.prog (w.iter s pos) = .ok (.tuple #[.bool true, .int .i64 pos, .int .i32 r]) (w.iter s (pos + wd)) := fun ty => by
       rw[run_next_any w s pos ty hp,hr,hwd]
      rw[←hr,←hwd] at hd
      have HX:=Lib.hid (show cK s=false from J3 hp (by rw[←hb];unfold rP;rw[decide_eq_false (show ¬b≤122 by omega),decide_eq_false (show ¬b≤57 by omega)];simp))
      have u1:decide ((r:Int)<97)=false:=by simp;omega
      have u2:decide ((122:Int)<(r:Int))=true:=by simp;omega
      have u3:decide ((r:Int)<48)=false:=by simp;omega
      have u4:decide ((57:Int)<(r:Int))=true:=by simp;omega
      clear hr hwd hd hb hbs hasc
      go_wp2_with fail
      go_ret
      exact⟨by rw[HX.out];rfl,HW.out _⟩
  · have hnx : ∀ ty, (Instr.next (.pointer (some ⟨w.heap.size, 0, none⟩)) true ty).run Tryz.prog (w.iter s pos) = .ok (.tuple #[.bool false]) (w.iter s pos) := fun ty => run_next_end w s pos ty hp
    have HX:=Lib.hid (show cK s = !K5 s by
     rw[HN.out,show((List.range s.size).all fun i=>rP (s.get! i).toNat)=true from List.all_eq_true.2 (fun i hi=>rC.out i (by have:=List.mem_range.1 hi;omega) (List.mem_range.1 hi))];simp)
    have HK:=Lib.hid (show K5 s=((s.toList == [116,111,107]) || (s.toList == [114,117,108,101]) || (s.toList == [105,110,116]) || (s.toList == [99,97,108,108]) || (s.toList == [114,101,116]) || (s.toList == [102,114,101,101])) from rfl)
    cases q0:(s.toList == [116,111,107]) with
    | true =>
     have HY:=Lib.hid (show cK s=false by rw[HX.out,HK.out,q0];simp)
     go_wp2_with fail
     go_ret
     exact⟨by rw[HY.out];rfl,HW.out _⟩
    | false=>
    cases q1:(s.toList == [114,117,108,101]) with
    | true =>
     have HY:=Lib.hid (show cK s=false by rw[HX.out,HK.out,q1];simp)
     go_wp2_with fail
     go_ret
     exact⟨by rw[HY.out];rfl,HW.out _⟩
    | false=>
    cases q2:(s.toList == [105,110,116]) with
    | true =>
     have HY:=Lib.hid (show cK s=false by rw[HX.out,HK.out,q2];simp)
     go_wp2_with fail
     go_ret
     exact⟨by rw[HY.out];rfl,HW.out _⟩
    | false=>
    cases q3:(s.toList == [99,97,108,108]) with
    | true =>
     have HY:=Lib.hid (show cK s=false by rw[HX.out,HK.out,q3];simp)
     go_wp2_with fail
     go_ret
     exact⟨by rw[HY.out];rfl,HW.out _⟩
    | false=>
    cases q4:(s.toList == [114,101,116]) with
    | true =>
     have HY:=Lib.hid (show cK s=false by rw[HX.out,HK.out,q4];simp)
     go_wp2_with fail
     go_ret
     exact⟨by rw[HY.out];rfl,HW.out _⟩
    | false=>
    cases q5:(s.toList == [102,114,101,101]) with
    | true =>
     have HY:=Lib.hid (show cK s=false by rw[HX.out,HK.out,q5];simp)
     go_wp2_with fail
     go_ret
     exact⟨by rw[HY.out];rfl,HW.out _⟩
    | false=>
    have HY:=Lib.hid (show cK s=true by rw[HX.out,HK.out,q0,q1,q2,q3,q4,q5];rfl)
    go_wp2_with fail
    go_ret
    exact⟨by rw[HY.out];rfl,HW.out _⟩
theorem BJ (n:Int) (w:World) :
 Calls Tryz.prog 98 #[.int .i64 n] w fun e w'=>e=.returned (.bool (decide (0≤n∧n≤31)))∧w'=w:=by
 by_cases h0:0≤n
 · have d0 : decide ((0 : Int) ≤ n) = true := by simpa using h0
   by_cases h1:n≤31
   · have d1 : decide (n ≤ (31 : Int)) = true := by simpa using h1
     have HX:=Lib.hid (show decide (0≤n∧n≤31)=true by simp[h0,h1])
     clear h0 h1
     go_enter Tryz.func98,Tryz.ntmps98
     go_wp2_with fail
     go_ret
     exact⟨by rw[HX.out];rfl,rfl⟩
   · have d1 : decide (n ≤ (31 : Int)) = false := by simpa using h1
     have HX:=Lib.hid (show decide (0≤n∧n≤31)=false by simp;omega)
     clear h0 h1
     go_enter Tryz.func98,Tryz.ntmps98
     go_wp2_with fail
     go_ret
     exact⟨by rw[HX.out];rfl,rfl⟩
 · have d0 : decide ((0 : Int) ≤ n) = false := by simpa using h0
   have HX:=Lib.hid (show decide (0≤n∧n≤31)=false by simp;omega)
   clear h0
   go_enter Tryz.func98,Tryz.ntmps98
   go_wp2_with fail
   go_ret
   exact⟨by rw[HX.out];rfl,rfl⟩
end Go.Proofs.YtfkmajjgkdjncaaGreatDoor

set_option maxHeartbeats 1000000
set_option maxRecDepth 1000000
namespace Go.Proofs.YtfkmajjgkdjncaaGreatDoor
open Go.RowKit Ru
abbrev Pq (code at_:Int):Ending:=.panicked [{ v:=.iface 115 (.agg #[.int .i64 code,.int .i64 at_]),recovered:=false }]
abbrev eY (q:Nat):Value:=.func (Fn.func 60) #[] #[.pointer (some ⟨q,0,none⟩)]
theorem jL (q:Nat) (code:Int) (w:World) :
 Calls Tryz.prog 60 #[.bool true,.int .i64 code,.pointer (some ⟨q,0,none⟩)] w fun e w'=>e=.returned (.tuple #[])∧w=w':=by
 go_enter Tryz.func60,Tryz.ntmps60
 go_wp2_with fail
 refine bodyPost_end (results_none rfl _ _ _) rfl ?_
 exact⟨rfl,rfl⟩
theorem gH (q:Nat) (code a:Int) (w:World) (hq:w.heap[q]? = some (.cells #[.int .i64 a] 3 (0,0))) :
 Calls Tryz.prog 60 #[.bool false,.int .i64 code,.pointer (some ⟨q,0,none⟩)] w fun e w'=>e=Pq code a∧w=w':=by
 obtain⟨c1,z1⟩:=aj hq
 clear hq
 go_enter Tryz.func60,Tryz.ntmps60
 go_wp2
 exact⟨rfl,rfl,rfl⟩
theorem Pk (q:Nat) (ok:Bool) (code a:Int) (w:World) (hq:w.heap[q]? = some (.cells #[.int .i64 a] 3 (0,0))) :
 Calls Tryz.prog 60 #[.bool ok,.int .i64 code,.pointer (some ⟨q,0,none⟩)] w fun e w'=>((ok=true∧e=.returned (.tuple #[]))∨(ok=false∧e=Pq code a))∧w=w':=by
 cases ok with
 | true=>exact(jL q code w).mono (fun e w' h=>⟨.inl ⟨rfl,h.1⟩,h.2⟩)
 | false=>exact(gH q code a w hq).mono (fun e w' h=>⟨.inr ⟨rfl,h.1⟩,h.2⟩)
def VO (w:World) (q r:Nat) (a b:Int) (x:Exit) (c:Act) (w':World):Prop:=
 x=.normal∧c.defers=[]∧w'.heap[q]? = some (.cells #[.int .i64 a] 3 (0,0))∧w'.heap[r]? = some (.cells #[.int .i64 b] 3 (0,0))∧∀k,k≤q→k≤r→k≤w.heap.size→Below k w w'
theorem pQ (q r:Nat) (a b:Int) (x y:Value) (w:World)
 (hQ:w.heap[q]? = some (.cells #[x] 3 (0,0))) (hR:w.heap[r]? = some (.cells #[y] 3 (0,0))) (hqr:q≠r) :
 CallsD Tryz.prog 59 #[.pointer (some ⟨q,0,none⟩),.pointer (some ⟨r,0,none⟩)] (.panicking ({ v:=.iface 115 (.agg #[.int .i64 a,.int .i64 b]),recovered:=false }::[])) w fun e u' w'=>
  e=.returned (.tuple #[])∧u'=.panicking ({ v:=.iface 115 (.agg #[.int .i64 a,.int .i64 b]),recovered:=true }::[]) ∧
  w'.heap[q]? = some (.cells #[.int .i64 a] 3 (0,0))∧w'.heap[r]? = some (.cells #[.int .i64 b] 3 (0,0))∧∀k,k≤q→k≤r→k≤w.heap.size→Below k w w':=by
 have ta:∀w,(Instr.typeAssert (.iface 115 (.agg #[.int .i64 a,.int .i64 b])) 20 115 true).run Tryz.prog w=.ok (.tuple #[.agg #[.int .i64 a,.int .i64 b],.bool true]) w:=fun w=>by kernel_rfl
 obtain⟨cQ,fQ⟩:=aj hQ
 obtain⟨cR,fR⟩:=aj hR
 refine callsD_of_wpS Tryz.func59 rfl fun c₀ cs hu=>?_
 simp only[Tryz.ntmps59,List.size_toArray,List.length_cons,List.length_nil,Nat.reduceAdd,Nat.reduceSub,Array.replicate_succ,Array.replicate_zero,List.push_toArray,List.append_toArray,List.nil_append,List.cons_append]
 have hrec : dW (c₀ :: cs) = (.iface 115 (.agg #[.int .i64 a, .int .i64 b]), { c₀ with mode := .panicking ({ v := .iface 115 (.agg #[.int .i64 a, .int .i64 b]), recovered := true } :: []) } :: cs) := by
  simp[dW,recoverD,hu]
 apply wpS_seq
 refine bO rfl rfl ?_
 rw[hrec]
 have HU:=Lib.hid hu
 clear hrec hu
 have HI:=Lib.hid (And.intro hQ hR)
 have hlo:q<w.heap.size:=dK hQ
 have hlf:r<w.heap.size:=dK hR
 clear hQ hR
 go_wp2
 simp only[Exit.thenS]
 refine wpS_of_wp (wp_mono (Q:=VO w q r a b) ?_ ?_)
 · go_wp2
   go_region
   obtain⟨hQ,hR⟩:=HI.out
   refine⟨rfl,rfl,?_,?_,?_⟩
   · rw [fE, Below.heap_alloc _ _ _ (by simp [World.setCell]; omega), Below.heap_setCell _ _ _ _ (by simpa using hqr)]
     exact mg hQ _
   · rw [fE, Below.heap_alloc _ _ _ (by simp [World.setCell]; omega)]
     refine mg (a:=y) ?_ _
     rw[Below.heap_setCell _ _ _ _ (by simpa using fun e=>hqr e.symm)]
     exact hR
   · intro k h2 h3 h4
     exact((((Below.refl k w).setCell h2 _).setCell h3 _).alloc (by simp[World.setCell];exact h4) _).drew
 · rintro e a w' ⟨rfl, hdf, h2, h3, h4⟩
   refine⟨hdf,_,rfl,.tuple #[],?_,rfl,rfl,h2,h3,h4⟩
   exact results_none rfl _ _ _
theorem I6 (q r:Nat) (w:World) :
 CallsD Tryz.prog 59 #[.pointer (some ⟨q,0,none⟩),.pointer (some ⟨r,0,none⟩)] .returning w fun e u' w'=>
  e=.returned (.tuple #[])∧u'=.returning∧w'=w.alloc (.cells #[.int .i64 0,.int .i64 0] 115):=by
 have ta:∀w,(Instr.typeAssert .nilIface 20 115 true).run Tryz.prog w=.ok (.tuple #[.agg #[.int .i64 0,.int .i64 0],.bool false]) w:=fun w=>by kernel_rfl
 refine callsD_of_wpS Tryz.func59 rfl fun c₀ cs hu=>?_
 simp only[Tryz.ntmps59,List.size_toArray,List.length_cons,List.length_nil,Nat.reduceAdd,Nat.reduceSub,Array.replicate_succ,Array.replicate_zero,List.push_toArray,List.append_toArray,List.nil_append,List.cons_append]
 have hrec:dW (c₀::cs)=(.nilIface,c₀::cs):=by
  simp[dW,recoverD,hu]
 apply wpS_seq
 refine bO rfl rfl ?_
 rw[hrec]
 have HU:=Lib.hid hu
 clear hrec hu
 go_wp2
 simp only[Exit.thenS]
 refine wpS_of_wp (wp_mono (Q:=fun x a w'=>x=.normal∧a.defers=[]∧w'=w.alloc (.cells #[.int .i64 0,.int .i64 0] 115)) ?_ ?_)
 · go_wp2
 · rintro e a w' ⟨rfl, hdf, rfl⟩
   exact⟨hdf,.returning,by have:=HU.out;cases c₀;simp_all,.tuple #[],results_none rfl _ _ _,rfl,rfl,rfl⟩
end Go.Proofs.YtfkmajjgkdjncaaGreatDoor

set_option maxHeartbeats 4000000
set_option maxRecDepth 100000
namespace Go.Proofs.YtfkmajjgkdjncaaGreatDoor
open Go.RowKit Ru
def yF (l:List ByteArray) (s:ByteArray):Bool:=l.any fun x=>decide (x=s)
theorem Gv (l:List ByteArray) (s:ByteArray):yF l s=true↔s∈l:=by
 unfold yF
 rw[List.any_eq_true]
 constructor
 · rintro ⟨x, h1, h2⟩
   have:=of_decide_eq_true h2
   subst this;exact h1
 · intro h;exact⟨s,h,decide_eq_true rfl⟩
theorem K6 (l:List ByteArray) (v:Value) (s:ByteArray) (w:World) (h:Row w v l.length (strs l)) (hl:l.length≤1000000) :
 Calls Tryz.prog 149 #[v,.string s] w fun e w'=>((∃i:Nat,i<l.length∧e=.returned (.int .i64 i)∧s∈l)∨(e=.returned (.int .i64 (-1))∧s ∉ l))∧w=w':=by
 have h':=h
 obtain⟨o,cap,rfl,_⟩:=h'
 have HR:=Lib.hid h
 obtain⟨n,hn⟩:∃n,n=l.length:=⟨_,rfl⟩
 rw[←hn] at hl ⊢
 have HN:=Lib.hid hn
 clear h hn
 go_enter Tryz.func149,Tryz.ntmps149
 go_wp2_with fail
 go_loopg [8] n (fun g i wx=>∃k:Nat,k+g=n∧i=.int .i64 k∧wx=w∧∀j u,j<k→l[j]? = some u→u≠s)
 case atStart=>exact⟨0,by omega,rfl,rfl,fun j u hj=>by omega⟩
 case round=>
  obtain⟨k,hkg,rfl,rfl,hall⟩:=hrel
  have HA:=Lib.hid hall
  clear hall
  cases gk with
  | zero =>
   obtain rfl:k=n:=by omega
   have hd:decide ((k:Int)<(k:Int))=false:=by simp
   go_wp2_with fail
   go_ret
   refine⟨.inr ⟨rfl,fun hm=>?_⟩,rfl⟩
   obtain⟨j,hj,rfl⟩:=List.getElem_of_mem hm
   exact HA.out j _ (by have:=HN.out;omega) (List.getElem?_eq_getElem hj) rfl
  | succ g =>
   have hk:k<n:=by omega
   have hd:decide ((k:Int)<(n:Int))=true:=by simp;omega
   have hk1:(0:Int)≤(k:Int):=by omega
   have hk2:(k:Int)<(n:Int):=by omega
   have jC:(k:Int)≤1000000:=by omega
   obtain⟨x,hx⟩:∃x,l[k]? = some x:=⟨_,List.getElem?_eq_getElem (by have:=HN.out;omega)⟩
   obtain⟨b,f,p,e,hlt,hc⟩:=HR.out.cells' (by have:=HN.out;omega)
   simp only[Value.slice.injEq,true_and] at e
   obtain⟨rfl,rfl⟩:=e
   have c1:=hc k _ (Gw hx)
   have HX:=Lib.hid hx
   clear hc hx
   by_cases hxs:s=x
   · subst hxs
     go_wp2_with fail
     go_ret
     exact⟨.inl ⟨k,hk,rfl,List.mem_of_getElem? HX.out⟩,rfl⟩
   · have hne : (s.toList == x.toList) = false := Gu hxs
     have UN:=Lib.hid hxs
     clear hxs
     go_wp2
     go_roundg g
     case measure=>omega
     case rel=>
      refine⟨k+1,by omega,by go_num,rfl,fun j u hj hu=>?_⟩
      rcases Nat.lt_or_ge j k with h|h
      · exact HA.out j u h hu
      · obtain rfl : j = k := by omega
        rw[HX.out] at hu;cases hu;exact fun e=>UN.out e.symm
theorem Ez (l:List ByteArray) (v:Value) (s:ByteArray) (w:World) (h:Row w v l.length (strs l)) (hl:l.length≤1000000) :
 Calls Tryz.prog 131 #[v,.string s] w fun e w'=>e=.returned (.bool (yF l s))∧w=w':=by
 have h':=h
 obtain⟨o,cap,rfl,_⟩:=h'
 have hc:=K6 l _ s w h hl
 have HC:=Lib.hid hc
 clear hc h
 go_enter Tryz.func131,Tryz.ntmps131
 go_wp2_with fail
 refine HC.out.mono ?_
 rintro e w' ⟨⟨i,hi,rfl,hm⟩|⟨rfl,hm⟩,rfl⟩
 · have hi0 : decide ((0 : Int) ≤ (i : Int)) = true := by simp
   have HM:=Lib.hid ((Gv l s).2 hm)
   clear hm
   go_wp2_with fail
   go_ret
   exact⟨by rw[HM.out];rfl,rfl⟩
 · have HM := Lib.hid (show yF l s = false by cases h : yF l s with | false => rfl | true => exact absurd ((Gv l s).1 h) hm)
   clear hm
   go_wp2_with fail
   go_ret
   exact⟨by rw[HM.out];rfl,rfl⟩
end Go.Proofs.YtfkmajjgkdjncaaGreatDoor

namespace Go.Proofs.YtfkmajjgkdjncaaGreatDoor
open Go Go.RowKit
section
variable {P:Program} {ops:Array Oper} {md:Region.Mode} {C:World→Prop}
def Hd (P:Program) (md:Region.Mode) (ops:Array Oper) (C:World→Prop) (n:Nat) (L:Array Bool→Act→Prop):Nat→Array Bool→Act→Prop
 | 0,s,a=>L s a
 | f+1,s,a=>Region.ready md ops s≠[]∧∀i∈Region.ready md ops s,i<n∧qOp P ops C i (Hd P md ops C n L f (s.setIfInBounds i true)) a
theorem VP {n g:Nat} {L:Array Bool→Act→Prop} {Q:Exit→Act→World→Prop} (hL:∀s a w,C w→L s a→wpAny P md ops Q g s a w) :
 ∀(f:Nat) (s:Array Bool) (a:Act) (w:World),C w→Hd P md ops C n L f s a→wpAny P md ops Q (f+g) s a w:=by
 intro f
 induction f with
 | zero=>intro s a w hw h;rw[Nat.zero_add];exact hL s a w hw h
 | succ f ih =>
  intro s a w hw h
  have e:f+1+g=(f+g)+1:=by omega
  rw[e]
  exact⟨fun h0=>(h.1 h0).elim,fun i hi=>wpOp_of_qOp hw (fun a' w' hw' hh=>ih _ a' w' hw' hh) (h.2 i hi).2⟩
structure Dj (md:Region.Mode) (ops:Array Oper) (n i:Nat) (oi:Oper) (s:Array Bool):Prop where
 inv:HeadInv md ops n s
 J4:i∈Region.ready md ops s
 far:∀j oj,ops[j]? = some oj→j≠i→s.getD j true=false→(∀e∈oj.after,Region.binds md e=true→e.on≠i)→oi.apart ops oj=true
theorem Dj.lt {n i:Nat} {oi:Oper} {s:Array Bool} (h:Dj md ops n i oi s) (hs:Region.sinkB md ops n=true) (hc:Region.chainB md ops n=true) (hn:n<ops.size) (hin:i<n) {j:Nat} (hj:j∈Region.ready md ops s):j<n:=by
 rcases Nat.lt_or_ge j n with k|k
 · exact k
 · exact(tail_waits hs hc hn h.inv _ i rfl hin (mem_ready.1 h.J4).1 j k hj).elim
theorem Dj.next {n i j:Nat} {oi:Oper} {s:Array Bool} (h:Dj md ops n i oi s) (hj:j∈Region.ready md ops s) (hjn:j<n) (hji:j≠i):Dj md ops n i oi (s.setIfInBounds j true) where
 inv:=h.inv.set hj hjn
 J4:=ready_mono h.J4 hji.symm
 far:=by
  intro k ok hk hki hun hno
  refine h.far k ok hk hki ?_ hno
  by_cases e:j=k
  · exact e▸(mem_ready.1 hj).1
  · rwa [getD_set_ne true e] at hun
theorem Pt {n i:Nat} {oi:Oper} {v:Value} {L:Array Bool→Act→Prop} (hi:ops[i]? = some oi) (hsel:Region.noSelect ops=true)
 (hs:Region.sinkB md ops n=true) (hc:Region.chainB md ops n=true) (hn:n<ops.size) (hin:i<n)
 (hd:∀s a,L s a→∀j∈Region.ready md ops s,n≤j) :
 ∀(f:Nat) (s:Array Bool) (a:Act),Dj md ops n i oi s→YieldsIn P ops C oi v a →
  Hd P md ops C n L f (s.setIfInBounds i true) (a.put oi.dst v)→Hd P md ops C n L (f+1) s a:=by
 intro f
 induction f with
 | zero =>
  intro s a F hy H
  refine⟨fun h=>(by have:=F.J4;rw[h] at this;cases this),fun j hj=>⟨F.lt hs hc hn hin hj,?_⟩⟩
  by_cases e:j=i
  · rw[e];exact hy.qOp hi H
  · have h1 := hd _ _ H j (ready_mono hj e)
    have h2:=F.lt hs hc hn hin hj
    omega
 | succ f ih =>
  intro s a F hy H
  refine⟨fun h=>(by have:=F.J4;rw[h] at this;cases this),fun j hj=>⟨F.lt hs hc hn hin hj,?_⟩⟩
  by_cases e:j=i
  · rw[e];exact hy.qOp hi H
  · obtain ⟨hun, oj, hoj, hall⟩ := mem_ready.1 hj
    have hno:∀e∈oj.after,Region.binds md e=true→e.on≠i:=by
     intro x hx hb hxi
     have h1:=hall x hx hb
     rw[hxi,getD_both (mem_ready.1 F.J4).1] at h1
     cases h1
    have h2:=qOp_put hoj (F.far j oj hoj e hun hno) (fun cs b=>Region.noSelect_spec hsel i oi cs b hi) (fun cs b=>Region.noSelect_spec hsel j oj cs b hoj) hy (H.2 j (ready_mono hj e)).2
    refine qOp_mono (fun a' h3=>ih _ a' (F.next hj (F.lt hs hc hn hin hj) e) h3.1 ?_) h2
    rw[Array.setIfInBounds_comm _ _ e]
    exact h3.2
theorem VQ {n g:Nat} {Lq:Act→Prop} (hsel:Region.noSelect ops=true) (hs:Region.sinkB md ops n=true) (hc:Region.chainB md ops n=true) (hn:n<ops.size) :
 ∀(l:List Oper) (k:Nat) (s:Array Bool) (a:Act),(∀j,j<l.length→l[j]? = ops[k+j]?)→k+l.length=n→HeadInv md ops n s →
 Region.lexHead md ops g l.length k s=true→wpQuiet P ops C Lq l a→Hd P md ops C n (fun s' a'=>Region.seqB md ops g n s'=true∧Lq a') l.length s a:=by
 intro l
 induction l with
 | nil =>
  intro k s a _ hk _ hB h
  obtain rfl:k=n:=by simpa using hk
  exact⟨by simpa [Region.lexHead] using hB,h⟩
 | cons o l ih =>
  intro k s a hl hk inv hB h
  have h0:ops[k]? = some o:=by simpa using(hl 0 (by simp)).symm
  rw[List.length_cons] at hk
  simp only[List.length_cons,Region.lexHead,Bool.and_eq_true] at hB
  have hr:k∈Region.ready md ops s:=by simpa using hB.1.1
  have hst:qOp P ops C k (wpQuiet P ops C Lq l) a:=by unfold qOp;simp only[h0];exact h
  obtain⟨v,hy,hK⟩:=yieldsIn_of_qOp h0 hst
  refine Pt h0 hsel hs hc hn (by omega) (fun s' a' hL=>seqB_ready hL.1) l.length s a ⟨inv,hr,Region.free_spec h0 hB.1.2⟩ hy ?_
  exact ih (k+1) _ _ (fun j hj=>by have:=hl (j+1) (by simp;omega);simpa [Nat.add_assoc,Nat.add_comm 1 j] using this) (by omega) (inv.set hr (by omega)) hB.2 hK
end
theorem dJ {P:Program} {id:Nat} {Q:Exit→Act→World→Prop} {a:Act} {w:World} {l:List Oper} {ι:Type} (W:ι→World) (n:Nat) (hm:P.follows .mixedOrders=true) (hB:Region.lexTailB .any l.toArray n=true) (h0:∃i,w.drew=W i)
 (h:wpQuiet P l.toArray (fun w'=>∃i,w'=W i) (fun a'=>∀w',(∃i,w'=W i)→wpList P l.toArray Q (l.drop n) a' w') (l.take n) a):(Code.region id l.toArray true).wp P Q a w:=by
 simp only[Region.lexTailB,Bool.and_eq_true,decide_eq_true_eq] at hB
 obtain⟨⟨⟨⟨hsel,hn⟩,hs⟩,hc⟩,hlex⟩:=hB
 have hn':n<l.length:=by simpa using hn
 have htl:(l.take n).length=n:=by simp;omega
 have hdl:(l.drop n).length=l.toArray.size-n:=by simp
 have inv0:HeadInv .any l.toArray n (Array.replicate l.toArray.size false):=
  ⟨by simp,fun j oj _ hl=>(by rw[getD_replicate_false] at hl;cases hl),fun t _ ht=>getD_in (by simpa using ht) (getD_replicate_false _ _)⟩
 have H:=VQ (md:=.any) (g:=l.toArray.size-n) hsel hs hc hn (l.take n) 0 _ a (fun j hj=>by rw[htl] at hj;simp[hj]) (by omega) inv0 (by rw[htl];exact hlex) h
 refine wp_region_any hm ?_
 have H2 := VP (Q := Q) (g := l.toArray.size - n) (fun s a' w' hw' hL => by
  have:=wpAny_of_seq (md:=.any) (Q':=Q) (l.drop n) n s a' w' (fun j=>by simp[List.getElem?_drop]) (by rw[hdl];exact hL.1) (hL.2 w' hw')
  rwa [hdl] at this) _ _ _ _ h0 H
 have e:(l.take n).length+(l.toArray.size-n)=l.toArray.size:=by simp;omega
 rw[e] at H2
 exact H2
theorem nJ (w:World):∃(ι:Type) (K:ι→World),Nonempty ι∧(∀i,Below w.heap.size w (K i))∧∀w',Below w.heap.size w w'→∃i,w'=K i:=
 ⟨{ w':World // Below w.heap.size w w' },Subtype.val,⟨⟨w,Below.refl _ _⟩⟩,fun i=>i.2,fun w' h=>⟨⟨w',h⟩,rfl⟩⟩
theorem mY {P:Program} {f:FuncId} {args:Array Value} {w:World} {ι:Type} {K:ι→World} (hb:∀i,Below w.heap.size w (K i)) (hs:∀w',Below w.heap.size w w'→∃i,w'=K i) {v:Value} {i:ι}
 (h:Calls P f args (K i) fun e w''=>e=.returned v∧Below (K i).heap.size (K i) w''):Calls P f args (K i) fun e w''=>e=.returned v∧∃j,w''=K j:=
 h.mono fun e w'' hh=>⟨hh.1,hs _ (ak (hb i) hh.2)⟩
theorem wQ {P:Program} {f:FuncId} {args:Array Value} {ι:Type} {K:ι→World} {v:Value} {i:ι}
 (h:Calls P f args (K i) fun e w''=>e=.returned v∧K i=w''):Calls P f args (K i) fun e w''=>e=.returned v∧∃j,w''=K j:=
 h.mono fun e w'' hh=>⟨hh.1,i,hh.2.symm⟩
end Go.Proofs.YtfkmajjgkdjncaaGreatDoor

set_option maxHeartbeats 8000000
set_option maxRecDepth 100000
namespace Go.Proofs.YtfkmajjgkdjncaaGreatDoor
open Go.RowKit Ru
def fC (T:List TK) (kind:Int):List ByteArray→List ByteArray→Option Int
 | _,[]=>none
 | seen,x::l=>if ku T x<0∨yF seen x=true then some 4 else if (T[(ku T x).toNat]?.map (·.kind))≠some kind then some 5 else fC T kind (seen++[x]) l
theorem K7 (T:List TK) (kind:Int) (seen:List ByteArray):fC T kind seen []=none:=rfl
theorem I8 (T:List TK) (kind:Int) (seen:List ByteArray) (x:ByteArray) (l:List ByteArray):fC T kind seen (x::l)=if ku T x<0∨yF seen x=true then some 4 else if (T[(ku T x).toNat]?.map (·.kind))≠some kind then some 5 else fC T kind (seen++[x]) l:=rfl
theorem Gx {T:List TK} {s:ByteArray} (h:¬ku T s<0):∃i:Nat,ku T s=i∧i<T.length:=by
 unfold ku at h ⊢
 cases hf:T.findIdx? (fun t=>decide (t.name=s)) with
 | none=>rw[hf] at h;simp at h
 | some i =>
  refine⟨i,rfl,?_⟩
  rw[List.findIdx?_eq_some_iff_getElem] at hf
  exact hf.1
def bH (r:Option Int) (a:Int) (w:World) (e:Ending) (w':World):Prop:=
 (match r with|none=>e=.returned (.tuple #[])|some c=>e=Pq c a)∧Below w.heap.size w w'
abbrev tQ (tv rv:Value) (q:Nat):Value:=.agg #[tv,rv,eY q]
theorem Gy:Tryz.prog.elem 55=9:=by kernel_rfl
theorem J5:Tryz.prog.underlying 55=some (.slice (Tryz.prog.elem 55)):=by rw[Gy];exact Tryz.underlying55
theorem Au:∃i,Tryz.prog.info? 9=some i∧i.zero=some (.string ⟨#[]⟩)∧i.size=1∧i.bytes=16:=info_parts (by kernel_rfl)
theorem Pv (w':World):(sizeOf (Tryz.prog.elem 55)).run Tryz.prog w'=.ok 1 w':=by
 obtain⟨i0,hi,hz0,hz1,hz2⟩:=Au
 rw[Gy];simp[sizeOf,run_typeInfo _ hi,hz1,go_sem]
theorem VR (o:Option Addr) (cap n:Nat) (cs:List Value) (hcs:cs.length=n) (k:Nat) (hk:k≤n) (hc:n≤cap):∃o1 c1,
 (∀w':World,(Instr.sliceAt 55 (.slice o n cap) none (some (.int .i64 k)) none).run Tryz.prog w'=.ok (.slice o1 k c1) w') ∧
  ∀w',Row w' (.slice o n cap) n cs→Row w' (.slice o1 k c1) k (cs.take k):=by
 have e1:((k:Int)).toNat=k:=by simp
 refine⟨(if cap=0 then o else o.map (·.add (0*1))),cap-0,fun w'=>?_,fun w' hr=>?_⟩
 · rw [run_sliceAt_slice _ _ _ _ _ _ J5, run_slice_h w' 55 o n cap J5 .i64 (k : Int) (by omega) (by omega), Pv]
   rw[Result.andThen_ok,e1]
   unfold Go.sliced
   rw[Nat.sub_zero k]
 · have h := hr.sliced hcs (Nat.zero_le k) hk
   unfold Go.sliced at h
   rw[Nat.sub_zero k,List.drop_zero] at h
   exact h
theorem M7 (l:List ByteArray) (k:Nat):(strs l).take k=strs (l.take k):=by simp[strs]
theorem KW (T:List TK) (l:List ByteArray) (tv rv nv:Value) (kind a:Int) (q:Nat) (w:World) (hT:iO w tv T) (iH:T.length≤1000) (p8:∃o n c,rv=.slice o n c) (hn:Row w nv l.length (strs l)) (hl:l.length≤1000)
 (hq:w.heap[q]? = some (.cells #[.int .i64 a] 3 (0,0))) :
 Calls Tryz.prog 101 #[tQ tv rv q,nv,.int .i64 kind] w (bH (fC T kind [] l) a w):=by
 obtain⟨ot,ct,nm,kd,cl,rk,so,sn,sc,lo,ln,lc,rfl,hall⟩:=hT.all
 obtain⟨o9,n9,c9,rfl⟩:=p8
 have hn':=hn
 obtain⟨on,cn,rfl,hcn,hcm,_⟩:=hn'
 have hfind:=fun s w' (hb:Below w.heap.size w w')=>yE T _ (.slice o9 n9 c9) s w' (hT.moved hb) iH ⟨_,_,_,rfl⟩
 have HFD:=Lib.hid hfind
 have rC:=Lib.hid hall
 have HN:=Lib.hid hn
 have HQ:=Lib.hid hq
 clear hfind hall hT hn hq
 go_enter Tryz.func101,Tryz.ntmps101
 go_wp2_with fail
 obtain⟨W,hW⟩:∃W,W=w.alloc (.cells #[.slice ot T.length ct,.slice o9 n9 c9,eY q] 119):=⟨_,rfl⟩
 have hbW:Below w.heap.size w W:=by rw[hW];exact ah (Below.refl _ _) _
 have Yr:W.heap[w.heap.size]? = some (.cells #[.slice ot T.length ct,.slice o9 n9 c9,eY q] 119 (0,0)):=by rw[hW];exact heap_alloc_new w _
 unfold eY at hW
 rw[←hW]
 have H0:=Lib.hid (And.intro hbW Yr)
 clear hW hbW Yr
 go_loopg [11] l.length (fun g s wx=>∃k:Nat,k+g=l.length∧s=.int .i64 k∧Below w.heap.size w wx∧wx.heap[w.heap.size]? = some (.cells #[.slice ot T.length ct,.slice o9 n9 c9,eY q] 119 (0,0))∧fC T kind (l.take k) (l.drop k)=fC T kind [] l)
 case atStart=>exact⟨0,by omega,rfl,H0.out.1,H0.out.2,by simp⟩
 case round=>
  obtain⟨k,hkg,rfl,hbx,K8,hne⟩:=hrel
  obtain⟨wo,rfl⟩:∃wo:World,wo=wr:=⟨_,rfl⟩
  cases gk with
  | zero =>
   obtain rfl:k=l.length:=by omega
   have hd:decide ((l.length:Int)<(l.length:Int))=false:=by simp
   rw[List.drop_length,K7] at hne
   have HX:=Lib.hid (And.intro hbx hne)
   clear hbx hne K8
   go_wp2_with fail
   refine bodyPost_end (results_none rfl _ _ _) rfl ?_
   unfold bH
   rw[←HX.out.2]
   exact⟨rfl,HX.out.1⟩
  | succ g =>
   have hk:k<l.length:=by omega
   have hd:decide ((k:Int)<(l.length:Int))=true:=by simp;omega
   have hk1:(0:Int)≤(k:Int):=by omega
   have hk2:(k:Int)<(l.length:Int):=by omega
   have jC:(k:Int)≤1000:=by omega
   obtain⟨x,hx⟩:∃x,l[k]? = some x:=⟨_,List.getElem?_eq_getElem hk⟩
   have hxe:l[k]=x:=by rw[List.getElem?_eq_getElem hk] at hx;exact Option.some.inj hx
   obtain⟨b,f,p,e,hlt,hc⟩:=HN.out.cells' (by omega)
   simp only[Value.slice.injEq,true_and] at e
   obtain⟨rfl,rfl⟩:=e
   have c1:wo.cell? ⟨b,f+k,none⟩=some (.string x):=(hbx.cell hlt).trans (hc k _ (Gw hx))
   rw[List.drop_eq_getElem_cons hk,hxe,I8] at hne
   have htk:l.take (k+1)=l.take k++[x]:=by rw[List.take_add_one,hx];rfl
   have hbc : ∀ w', Below wo.heap.size wo w' → w'.cell? ⟨w.heap.size, 0, none⟩ = some (.slice ot T.length ct) ∧ w'.cell? ⟨w.heap.size, 1, none⟩ = some (.slice o9 n9 c9) ∧ w'.cell? ⟨w.heap.size, 2, none⟩ = some (.func (Fn.func 60) #[] #[.pointer (some ⟨q, 0, none⟩)]) := fun w' hb => by
    have:=aB hb K8
    simp[World.cell?,this]
   obtain⟨b0,b1,b2⟩:=hbc wo (Below.refl _ _)
   have Rm:=Lib.hid hbc
   have HX:=Lib.hid (And.intro hbx (And.intro K8 (And.intro hne htk)))
   clear hbx K8 hne htk hbc hx hxe hc
   go_wp2_with fail
   refine(HFD.out x _ HX.out.1).mono ?_
   rintro e w2 ⟨rfl,hb2⟩
   obtain⟨d0,d1,d2⟩:=Rm.out w2 hb2
   have HB2:=Lib.hid hb2
   have hq2:=aB (ak HX.out.1 hb2) HQ.out
   have gM:=Lib.hid hq2
   obtain⟨fi,hfi⟩:∃fi,fi=ku T x:=⟨_,rfl⟩
   rw[←hfi]
   have Gz:=Lib.hid hfi
   clear hb2 hq2 b0 b1 b2 hfi
   obtain⟨ι,K,hne,hkb,hks⟩:=nJ wo
   have KB:=Lib.hid hkb
   have KS:=Lib.hid hks
   have k0:∀i,(K i).cell? ⟨w.heap.size,1,none⟩=some (.slice o9 n9 c9):=fun i=>(Rm.out _ (hkb i)).2.1
   have k1:∀i,(K i).cell? ⟨w.heap.size,2,none⟩=some (.func (Fn.func 60) #[] #[.pointer (some ⟨q,0,none⟩)]):=fun i=>(Rm.out _ (hkb i)).2.2
   have kS:=KS.out _ HB2.out.drew
   clear hkb hks
   by_cases hneg:fi<0
   · have t1 : decide ((0 : Int) ≤ fi) = false := by simp; omega
     have HR:=Lib.hid (show some 4=fC T kind [] l by rw[←HX.out.2.2.1,if_pos (.inl (by rw[←Gz.out];exact hneg))])
     clear hneg
     go_wp2_with fail
     refine dJ K 12 (by kernel_rfl) (by kernel_rfl) kS ?_
     simp only[List.take_succ_cons,List.take_zero,List.drop_succ_cons,List.drop_zero]
     repeat (go_big_quiet_step (fail))
     refine wpQuiet_nil ?_
     rintro _ ⟨iw,rfl⟩
     have GA:=Lib.hid (ak HX.out.1 (KB.out iw))
     go_wp2_with fail
     refine(gH q 4 a _ (aB GA.out HQ.out)).mono ?_
     rintro e w3 ⟨rfl,rfl⟩
     go_wp2_with fail
     refine⟨rfl,?_⟩
     unfold bH
     rw[←HR.out]
     exact⟨rfl,GA.out⟩
   · have t1 : decide ((0 : Int) ≤ fi) = true := by simp; omega
     obtain⟨m,hm⟩:∃m,m=yF (l.take k) x:=⟨_,rfl⟩
     obtain⟨o1,c1',hcut,hcr⟩:=VR (some ⟨b,f,none⟩) cn l.length (strs l) (Py l) k (by omega) hcn
     have hcon : ∀ i, Calls Tryz.prog 131 #[.slice o1 k c1', .string x] (K i) fun e w'' => e = .returned (.bool m) ∧ ∃ j, w'' = K j := fun i => by
      refine wQ ?_
      rw[hm]
      have hrow:=hcr _ (HN.out.below (ak HX.out.1 (KB.out i)))
      rw[M7] at hrow
      have hlen:(l.take k).length=k:=by simp;omega
      exact Ez (l.take k) _ x (K i) (by rw[hlen];exact hrow) (by omega)
     have Zc:=Lib.hid hcon
     have HM:=Lib.hid hm
     have VT:=Lib.hid hneg
     have bn:fi<2 ^ 40:=by
      obtain⟨i,e,hi⟩:=Gx (T:=T) (s:=x) (by rw[←Gz.out];exact hneg)
      rw[Gz.out,e];omega
     clear hcon hm hneg hcr
     go_wp2_with fail
     refine dJ K 12 (by kernel_rfl) (by kernel_rfl) kS ?_
     simp only[List.take_succ_cons,List.take_zero,List.drop_succ_cons,List.drop_zero]
     repeat (go_big_quiet_step (exact Zc.out _))
     refine wpQuiet_nil ?_
     rintro _ ⟨iw,rfl⟩
     have GA:=Lib.hid (ak HX.out.1 (KB.out iw))
     cases m with
     | true =>
      have HR:=Lib.hid (show some 4=fC T kind [] l by rw[←HX.out.2.2.1,if_pos (.inr HM.out.symm)])
      go_wp2_with fail
      refine(gH q 4 a _ (aB GA.out HQ.out)).mono ?_
      rintro e w3 ⟨rfl,rfl⟩
      go_wp2_with fail
      refine⟨rfl,?_⟩
      unfold bH
      rw[←HR.out]
      exact⟨rfl,GA.out⟩
     | false =>
      go_wp2_with fail
      refine(jL q 4 _).mono ?_
      rintro e w3 ⟨rfl,rfl⟩
      obtain⟨i,he,hi⟩:=Gx (T:=T) (s:=x) (by rw[←Gz.out];have:=VT.out;omega)
      obtain rfl:fi=(i:Int):=by rw[Gz.out,he]
      have Pz:=HX.out.2.2.1
      rw[if_neg (by intro h;rcases h with h|h;(rw[←Gz.out] at h;have:=VT.out;omega);rw[←HM.out] at h;cases h),←Gz.out,Int.toNat_natCast,List.getElem?_eq_getElem hi] at Pz
      have hall:=rC.out i _ (List.getElem?_eq_getElem hi)
      obtain⟨e1,e2,e3,e4,er,tb,tf,hot,htb,g0,g1,g2,g3,g4,g5⟩:=hall
      have VU:=Lib.hid Pz
      have HE2:=Lib.hid e2
      obtain⟨J6,PD⟩:∃J6,J6=kd i:=⟨_,rfl⟩
      have Yt:=Lib.hid PD
      rw[←PD] at g1
      subst hot
      have i1:(0:Int)≤(i:Int):=by omega
      have i2:(i:Int)<(T.length:Int):=by omega
      have i3:(i:Int)≤1000:=by omega
      have m1:∀j,(K j).cell? ⟨tb,tf+i*6+1,none⟩=some (.int .i64 J6):=fun j=>((ak HX.out.1 (KB.out j)).cell htb).trans g1
      have m0:∀j,(K j).cell? ⟨w.heap.size,0,none⟩=some (.slice (some ⟨tb,tf,none⟩) T.length ct):=fun j=>(Rm.out _ (KB.out j)).1
      have Vz:=KS.out _ (KB.out iw).drew
      clear Pz e1 e2 e3 e4 er PD g0 g1 g2 g3 g4 g5 he
      go_wp2_with fail
      refine dJ K 11 (by kernel_rfl) (by kernel_rfl) Vz ?_
      simp only[List.take_succ_cons,List.take_zero,List.drop_succ_cons,List.drop_zero]
      repeat (go_big_quiet_step (fail))
      refine wpQuiet_nil ?_
      rintro _ ⟨Rb,rfl⟩
      have VW:=Lib.hid (ak HX.out.1 (KB.out Rb))
      have JB:=Lib.hid (KB.out Rb)
      by_cases hkk:J6=kind
      · have d1 : (J6 == kind) = true := by simpa using hkk
        have HR:=Lib.hid (show fC T kind (l.take (k+1)) (l.drop (k+1))=fC T kind [] l by
         rw[HX.out.2.2.2,←VU.out,if_neg (by simp only[Option.map_some,ne_eq,Option.some.injEq,Decidable.not_not];rw[←HE2.out,←Yt.out];exact hkk)])
        clear hkk
        go_wp2_with fail
        refine(jL q 5 _).mono ?_
        rintro e w3 ⟨rfl,rfl⟩
        go_wp2_with fail
        go_roundg g
        case measure=>omega
        case rel=>exact⟨k+1,by omega,by go_num,VW.out,aB JB.out HX.out.2.1,HR.out⟩
      · have d1 : (J6 == kind) = false := by simpa using hkk
        have HR:=Lib.hid (show some 5=fC T kind [] l by
         rw[←VU.out,if_pos (by simp only[Option.map_some,ne_eq,Option.some.injEq];rw[←HE2.out,←Yt.out];exact hkk)])
        clear hkk
        go_wp2_with fail
        refine(gH q 5 a _ (aB VW.out HQ.out)).mono ?_
        rintro e w3 ⟨rfl,rfl⟩
        go_wp2_with fail
        refine⟨rfl,?_⟩
        unfold bH
        rw[←HR.out]
        exact⟨rfl,VW.out⟩
end Go.Proofs.YtfkmajjgkdjncaaGreatDoor
