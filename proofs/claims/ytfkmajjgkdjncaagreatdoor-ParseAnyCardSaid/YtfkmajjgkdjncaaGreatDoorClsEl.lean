import Derived.Test.YtfkmajjgkdjncaaGreatDoorClsHas
set_option linter.unusedVariables false
set_option linter.unusedSimpArgs false
namespace Go.Proofs.YtfkmajjgkdjncaaGreatDoor
open Go.RowKit De Wd
theorem CI.lt {w:World} {p k n:Nat} {L:Its} {v:Value} (h:CI w p L k n v):p<w.heap.size:=by
 rcases Nat.lt_or_ge p w.heap.size with h1|h1
 · exact h1
 · have:=h.hh;rw[Array.getElem?_eq_none h1] at this;cases this
theorem CI.aL {w w':World} {p k0 k n E i:Nat} {L:Its} {v x:Value} (h0:CI w p L k0 n v) (h:CI w' p L k n v) (hE:w.heap.size≤E):CI (w'.setCell ⟨E,i,none⟩ x) p L k n v:=by
 have hp:=h0.lt
 refine⟨?_,?_,h.far,h.le,h.small⟩
 · rw[Below.heap_setCell _ _ _ _ (by simp;omega)];exact h.hh
 · obtain ⟨o, cap, rfl, h1, h2, h3⟩ := h.row
   obtain⟨o',cap',e,_,_,h3'⟩:=h0.row
   simp only[Value.slice.injEq,true_and] at e
   obtain⟨rfl,rfl⟩:=e
   refine⟨o,cap,rfl,h1,h2,?_⟩
   rcases h3 with h3|⟨b,off,rfl,hb,hc⟩
   · exact .inl h3
   · rcases h3' with h3' | ⟨b', off', e, hb', _⟩
     · exact .inl ⟨h3'.1,fun e=>by cases e⟩
     · simp only [Option.some.injEq, Addr.mk.injEq, and_true] at e
       obtain⟨rfl,rfl⟩:=e
       refine .inr ⟨b,off,rfl,by simpa [World.setCell] using hb,fun j u hu=>?_⟩
       rw[←hc j u hu]
       unfold World.cell?
       rw[Below.heap_setCell _ _ _ _ (by simp;omega)]
theorem DR {w:World} {p:Nat} {a b:Value} {t:TypeId} (h:w.heap[p]? = some (.cells #[a,b] t (0,0))) :
 (w.cell? ⟨p,0,none⟩=some a∧w.cell? ⟨p,1,none⟩=some b)∧w.frozen? ⟨p,0,none⟩=false∧w.frozen? ⟨p,1,none⟩=false:=by
 simp[World.cell?,World.frozen?,h]
end Go.Proofs.YtfkmajjgkdjncaaGreatDoor
