/- Merged. -/
import Derived.Test.YtfkmajjgkdjncaaGreatDoorPmAtm
import Derived.Test.YtfkmajjgkdjncaaGreatDoorClsPeek
import Derived.Test.YtfkmajjgkdjncaaGreatDoorOwn
import Derived.Test.YtfkmajjgkdjncaaGreatDoorRe
set_option linter.unusedVariables false
set_option linter.unusedSimpArgs false
set_option maxHeartbeats 2000000
set_option maxRecDepth 100000
namespace Go.Proofs.YtfkmajjgkdjncaaGreatDoor
open Go.RowKit De Wd
structure XI (w:World) (p:Nat) (s:ByteArray) (L:Its) (k d:Nat) (v:Value):Prop where
 hh:w.heap[p]? = some (.cells #[.string s,v,.int .i64 k,.int .i64 d] 86 (0,0))
 row:Row w v L.length (lM L)
 far:∀b off cap,v=.slice (some ⟨b,off,none⟩) L.length cap→b≠p
 le:k≤L.length
 small:L.length≤1000000
theorem XI.lt {w:World} {p:Nat} {s:ByteArray} {L:Its} {k d:Nat} {v:Value} (h:XI w p s L k d v):p<w.heap.size:=by
 rcases Nat.lt_or_ge p w.heap.size with h1|h1
 · exact h1
 · have:=h.hh;rw[Array.getElem?_eq_none h1] at this;cases this
theorem XI.moved {w w':World} {p:Nat} {s:ByteArray} {L:Its} {k d:Nat} {v:Value} (h:XI w p s L k d v) (hb:Below w.heap.size w w'):XI w' p s L k d v:=
 ⟨by rw[hb.block p h.lt];exact h.hh,h.row.below hb,h.far,h.le,h.small⟩
theorem XI.drewN {w:World} {p:Nat} {s:ByteArray} {L:Its} {k d:Nat} {v:Value} (h:XI w p s L k d v) (q:Nat):XI (w.drewN q) p s L k d v:=
 h.moved ⟨rfl,rfl,rfl,Nat.le_refl _,fun _ _=>rfl⟩
theorem XI.Jv {w:World} {p:Nat} {s:ByteArray} {L:Its} {k d:Nat} {v:Value} (h:XI w p s L k d v) (i:Nat) (x:Value):Row (w.setCell ⟨p,i,none⟩ x) v L.length (lM L):=by
 obtain⟨o,cap,rfl,h1,h2,h3⟩:=h.row
 refine⟨o,cap,rfl,h1,h2,?_⟩
 rcases h3 with h3|⟨b,off,rfl,hb,hc⟩
 · exact .inl h3
 · refine .inr ⟨b, off, rfl, by simpa [World.setCell] using hb, fun j u hu => ?_⟩
   have hne:=h.far b off cap rfl
   rw[←hc j u hu]
   unfold World.cell?
   rw[Below.heap_setCell _ _ _ _ hne]
theorem XI.at {w : World} {p : Nat} {s : ByteArray} {L : Its} {k d k' : Nat} {v : Value} (h : XI w p s L k d v) (hk : k' ≤ L.length) : XI (w.setCell ⟨p, 2, none⟩ (.int .i64 k')) p s L k' d v :=
 ⟨by have:=h.hh;simp[World.setCell,Array.getElem?_modify,this],h.Jv 2 _,h.far,hk,h.small⟩
theorem XI.deep {w:World} {p:Nat} {s:ByteArray} {L:Its} {k d d':Nat} {v:Value} (h:XI w p s L k d v):XI (w.setCell ⟨p,3,none⟩ (.int .i64 d')) p s L k d' v:=
 ⟨by have:=h.hh;simp[World.setCell,Array.getElem?_modify,this],h.Jv 3 _,h.far,h.le,h.small⟩
theorem aJ {w:World} {p:Nat} {a b c d:Value} {t:TypeId} (h:w.heap[p]? = some (.cells #[a,b,c,d] t (0,0))) :
 (w.cell? ⟨p,0,none⟩=some a∧w.cell? ⟨p,1,none⟩=some b∧w.cell? ⟨p,2,none⟩=some c∧w.cell? ⟨p,3,none⟩=some d) ∧
 w.frozen? ⟨p,0,none⟩=false∧w.frozen? ⟨p,1,none⟩=false∧w.frozen? ⟨p,2,none⟩=false∧w.frozen? ⟨p,3,none⟩=false:=by
 simp[World.cell?,World.frozen?,h]
def jv (w0 w':World) (e:RE) (x:Ending):Prop:=
 ∃sv lv,x=.returned (.agg #[.int .i64 e.kind,sv,lv])∧KP (fun k=>w0.heap.size≤k) w' (fun w2=>bI w2 e sv lv)
theorem Ch.ag {w w':World} {p:Nat} (h:Ch w w' p):Ag (fun k=>k≠p) w w':=⟨h.os,h.tape,h.output,h.size,h.block⟩
theorem Sl {w:World} {k:Int} {a b:RE} {s1 l1 s2 l2:Value} {q:Nat} {t:TypeId} (hq:w.heap[q]? = some (.cells #[.int .i64 a.kind,s1,l1,.int .i64 b.kind,s2,l2] t (0,0))) (ha:bI w a s1 l1) (hb:bI w b s2 l2) :
 bI w (.mk k [] [a,b]) (.slice none 0 0) (.slice (some ⟨q,0,none⟩) 2 2):=by
 have hlt:q<w.heap.size:=by
  rcases Nat.lt_or_ge q w.heap.size with h1|h1
  · exact h1
  · rw[Array.getElem?_eq_none h1] at hq;cases hq
 refine .mk k [] [a,b] _ _ [(a.kind,s1,l1),(b.kind,s2,l2)] ⟨none,0,rfl,by decide,by decide,.inl ⟨rfl,fun _=>rfl⟩⟩ ⟨_,2,rfl,Nat.le_refl _,by show(2:Nat)≤_;decide,.inr ⟨q,0,rfl,hlt,?_⟩⟩ rfl ?_ ?_
 · intro j u hu
   unfold World.cell?
   rw[show(⟨q,0+j,none⟩:Addr).block=q from rfl,hq]
   match j,hu with
   | 0,h=>simpa [trip] using h
   | 1,h=>simpa [trip] using h
   | 2,h=>simpa [trip] using h
   | 3,h=>simpa [trip] using h
   | 4,h=>simpa [trip] using h
   | 5,h=>simpa [trip] using h
   | j+6,h=>simp[trip] at h
 · intro i e p he hp
   match i,he,hp with
   | 0,he,hp=>cases he;cases hp;rfl
   | 1,he,hp=>cases he;cases hp;rfl
   | i+2,he,hp=>simp at he
 · intro i e p he hp
   match i,he,hp with
   | 0,he,hp=>cases he;cases hp;exact ha
   | 1,he,hp=>cases he;cases hp;exact hb
   | i+2,he,hp=>simp at he
theorem Sj {w:World} {k:Int} {a:RE} {s1 l1:Value} {q:Nat} {t:TypeId} (hq:w.heap[q]? = some (.cells #[.int .i64 a.kind,s1,l1] t (0,0))) (ha:bI w a s1 l1) :
 bI w (.mk k [] [a]) (.slice none 0 0) (.slice (some ⟨q,0,none⟩) 1 1):=by
 have hlt:q<w.heap.size:=by
  rcases Nat.lt_or_ge q w.heap.size with h1|h1
  · exact h1
  · rw[Array.getElem?_eq_none h1] at hq;cases hq
 refine .mk k [] [a] _ _ [(a.kind,s1,l1)] ⟨none,0,rfl,by decide,by decide,.inl ⟨rfl,fun _=>rfl⟩⟩ ⟨_,1,rfl,Nat.le_refl _,by show(1:Nat)≤_;decide,.inr ⟨q,0,rfl,hlt,?_⟩⟩ rfl ?_ ?_
 · intro j u hu
   unfold World.cell?
   rw[show(⟨q,0+j,none⟩:Addr).block=q from rfl,hq]
   match j,hu with
   | 0,h=>simpa [trip] using h
   | 1,h=>simpa [trip] using h
   | 2,h=>simpa [trip] using h
   | j+3,h=>simp[trip] at h
 · intro i e p he hp
   match i,he,hp with
   | 0,he,hp=>cases he;cases hp;rfl
   | i+1,he,hp=>simp at he
 · intro i e p he hp
   match i,he,hp with
   | 0,he,hp=>cases he;cases hp;exact ha
   | i+1,he,hp=>simp at he
theorem bf (p i k d:Nat) (s:ByteArray) (L:Its) (v:Value) (w:World) (h:XI w p s L k d v) :
 Calls Tryz.prog 112 #[.pointer (some ⟨p,0,none⟩),.int .i64 i] w fun e w'=>e=.returned (.int .i32 (pk L i))∧w'=w:=by
 obtain⟨⟨c0,c1,c2,c3⟩,f0,f1,f2,f3⟩:=aJ h.hh
 by_cases hk:i<L.length
 · obtain ⟨q, hq⟩ : ∃ q, L[i]? = some q := ⟨L[i], List.getElem?_eq_getElem hk⟩
   obtain⟨b1,Uk,k1,rfl,hb1,a0,a1,a2,a3,a4⟩:=h.row.item hq
   have e1:decide ((L.length:Int)≤(i:Int))=false:=by simp;omega
   have e2:decide (L.length≤i)=false:=by simp;omega
   have hii:(0:Int)≤(i:Int):=by omega
   have hij:(i:Int)<(L.length:Int):=by omega
   cases hbad:q.2.bad with
   | true =>
    have hpk:pk L i=-1:=by unfold pk;rw[hq];simp[hbad]
    rw[hbad] at a3
    have HP:=Lib.hid hpk
    clear h hq hbad hpk
    go_enter Tryz.func112,Tryz.ntmps112
    go_wp2
    go_ret
    exact⟨r9 HP.out.symm,rfl⟩
   | false =>
    have hpk:pk L i=q.2.r:=by unfold pk;rw[hq];simp[hbad]
    rw[hbad] at a3
    have HP:=Lib.hid hpk
    clear h hq hbad hpk
    go_enter Tryz.func112,Tryz.ntmps112
    go_wp2
    go_ret
    exact⟨r9 HP.out.symm,rfl⟩
 · have hpk := pq hk
   obtain⟨o,cap,rfl,_⟩:=h.row
   have HP:=Lib.hid hpk
   have e1:decide ((L.length:Int)≤(i:Int))=true:=by simp;omega
   have e2:decide (L.length≤i)=true:=by simp;omega
   clear h hk hpk
   go_enter Tryz.func112,Tryz.ntmps112
   go_wp2
   go_ret
   exact⟨r9 HP.out.symm,rfl⟩
theorem dx (p i k d:Nat) (s:ByteArray) (L:Its) (v:Value) (w:World) (h:XI w p s L k d v) :
 Calls Tryz.prog 71 #[.pointer (some ⟨p,0,none⟩),.int .i64 i] w fun e w'=>e=.returned (.int .i64 (aA L s.size i))∧w'=w:=by
 obtain⟨⟨c0,c1,c2,c3⟩,f0,f1,f2,f3⟩:=aJ h.hh
 by_cases hk:i<L.length
 · obtain ⟨q, hq⟩ : ∃ q, L[i]? = some q := ⟨L[i], List.getElem?_eq_getElem hk⟩
   obtain⟨b1,Uk,k1,rfl,hb1,a0,a1,a2,a3,a4⟩:=h.row.item hq
   have e1:decide ((i:Int)<(L.length:Int))=true:=by simp;omega
   have e2:decide (i<L.length)=true:=by simp;omega
   have hii:(0:Int)≤(i:Int):=by omega
   have hij:(i:Int)<(L.length:Int):=by omega
   have hpk:aA L s.size i=q.1:=by unfold Wd.aA;rw[hq]
   have HP:=Lib.hid hpk
   clear h hq hpk
   go_enter Tryz.func71,Tryz.ntmps71
   go_wp2
   go_ret
   exact⟨by rw[HP.out];rfl,rfl⟩
 · have hpk : aA L s.size i = s.size := by unfold Wd.aA; rw [List.getElem?_eq_none (by omega)]
   obtain⟨o,cap,rfl,_⟩:=h.row
   have HP:=Lib.hid hpk
   have e1:decide ((i:Int)<(L.length:Int))=false:=by simp;omega
   have e2:decide (i<L.length)=false:=by simp;omega
   clear h hk hpk
   go_enter Tryz.func71,Tryz.ntmps71
   go_wp2
   go_ret
   exact⟨by rw[HP.out];rfl,rfl⟩
end Go.Proofs.YtfkmajjgkdjncaaGreatDoor
