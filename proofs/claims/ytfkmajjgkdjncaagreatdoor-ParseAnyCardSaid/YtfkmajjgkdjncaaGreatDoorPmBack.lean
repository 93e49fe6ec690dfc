/- Merged. -/
import Derived.Test.YtfkmajjgkdjncaaGreatDoorPmPar
set_option linter.unusedVariables false
set_option linter.unusedSimpArgs false
namespace Go.Proofs.YtfkmajjgkdjncaaGreatDoor
open Go.RowKit Ru
def kN (k:Int):Nat:=if k=3 then 1 else if k=5∨k=6 then 2 else if k=7 then 1 else 0
namespace PT
theorem DY (e:PT) (l:List PT):deps (e::l)=max e.dep (deps l):=by rw[deps]
end PT
inductive RE.W2:RE→Prop
 | mk (k:Int) (s:List (Int×Int)) (l:List RE) (h3:k=3∨k=4→l.length=2) (h:∀(i:Nat) (e:RE),l[i]? = some e→RE.W2 e):RE.W2 (.mk k s l)
open Go.RowKit De Wd Ru
namespace Pm
theorem Tx.of {t:List Int} (h:∀c∈t,c≠10∧c≠47∧c≠92):Tx t:=
 ⟨fun c hc=>⟨(h c hc).1,(h c hc).2.1⟩,fun c hc=>(h c (List.mem_of_getLast? hc)).2.2⟩
def nl:Pw:=⟨5,[10]⟩
def sp1:Pw:=⟨0,[32]⟩
def RX (s:ST):List Pw:=(if 0<s.calls.length then [sp1,jX 94,sp1]++([jX 123]++uP s.calls++[jX 125]) else [])++sp1::s.p.aT
end Pm
namespace Pm
inductive Stp (V:Ws):Nat→ST→Nat→Prop
 | bare {k k1:Nat} {p:PT} (h:¬sg V k 94) (q:iT V 0 k p k1):Stp V k ⟨[],p⟩ k1
 | calls {k j k1:Nat} {ns:List ByteArray} {p:PT} (h:sg V k 94) (h1:sg V (k+1) 123) (n:ny V (k+2) ns j) (h2:sg V j 125) (q:iT V 0 (j+1) p k1):Stp V k ⟨ns,p⟩ k1
inductive yY (V:Ws):Nat→List ST→Nat→Prop
 | last {k k1:Nat} {s:ST} (h:Stp V k s k1) (h2:¬sg V k1 94):yY V k [s] k1
 | more {k k1 k2:Nat} {s:ST} {l:List ST} (h:Stp V k s k1) (h2:sg V k1 94) (r:yY V k1 l k2):yY V k (s::l) k2
structure LG (V:Ws) (k:Nat) (t:TK) (tx:ByteArray):Prop where
 w0:V[k]? = some (1,[116,111,107])
 w1:V[k+1]? = some (1,sb t.name)
 w2:V[k+2]? = some (1,sb (Xz t.kind))
 w3:V[k+3]? = some (2,sb (wM t.cls))
 w4:sg V (k+4) 61
 w5:V[k+5]? = some (4,sb tx)
 nm:cK t.name=true
 kd:t.kind=0∨t.kind=1∨t.kind=2
 cl:0≤t.cls∧t.cls≤31
structure Ir (V:Ws) (k:Nat) (r:RU) (k1:Nat):Prop where
 w0:V[k]? = some (1,[114,117,108,101])
 w1:V[k+1]? = some (2,sb (wM r.cls))
 cl:0≤r.cls∧r.cls≤31
 f1:r.free=true→V[k+2]? = some (1,[102,114,101,101])∧yY V (k+3) r.steps k1
 f0:r.free=false→V[k+2]? ≠ some (1,[102,114,101,101])∧yY V (k+2) r.steps k1
inductive u7 (V:Ws) (TA:Nat→TK→Prop):Nat→List TK→List RU→Prop
 | fin {k:Nat} (h:k=V.length):u7 V TA k [] []
 | nl {k:Nat} {T:List TK} {R:List RU} (h5:V[k]? = some (5,[])) (r:u7 V TA (k+1) T R):u7 V TA k T R
 | tok {k:Nat} {t:TK} {T:List TK} {R:List RU} (h:TA k t) (h5:V[k+6]? = some (5,[])) (r:u7 V TA (k+7) T R):u7 V TA k (t::T) R
 | rule {k k1:Nat} {r:RU} {T:List TK} {R:List RU} (h:Ir V k r k1) (h5:V[k1]? = some (5,[])) (q:u7 V TA (k1+1) T R):u7 V TA k T (r::R)
end Pm
end Go.Proofs.YtfkmajjgkdjncaaGreatDoor
