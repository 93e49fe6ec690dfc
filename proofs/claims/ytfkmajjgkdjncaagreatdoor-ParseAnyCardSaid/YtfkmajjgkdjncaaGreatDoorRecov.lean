import Derived.Test.YtfkmajjgkdjncaaGreatDoorBut
import Derived.Defers
import Derived.Recover
set_option linter.unusedVariables false
set_option linter.unusedSimpArgs false
namespace Go.Proofs.YtfkmajjgkdjncaaGreatDoor
open Go.RowKit
def dW (cs:List Frame):Value×List Frame:=match recoverD cs with|some x=>x|none=>(.nilIface,cs)
theorem bO {P:Program} {Q:Exit→Act→List Frame→World→Prop} {a:Act} {cs:List Frame} {w:World} {id:Nat} {o:Oper} {rest:List Oper}
 (hg0:o.guard=none) (hop:(execOp a.eval o).run P w=.ok .recover w)
 (h:wpList P (o::rest).toArray (fun e a' w'=>Q e a' (dW cs).2 w') rest (a.put o.dst (dW cs).1) w):(Code.region id (o::rest).toArray false).wpS P Q a cs w:=by
 intro b k hb hro
 have hrange:List.range (o::rest).toArray.size=0::List.range' 1 rest.length:=by
  simp[List.range_eq_range',List.range'_succ]
 have h' : wpOps P (o :: rest).toArray (fun e a' w' => Q e a' (dW cs).2 w') (List.range' 1 rest.length) (a.put o.dst (dW cs).1) w := by
  rw[wpOps_eq_wpList rest 1 (fun j=>by simp[Nat.add_comm 1 j])];exact h
 obtain⟨e,a',w',hq,harr⟩:=wp_ops _ _ _ h' b k (dW cs).2
 refine⟨e,a',(dW cs).2,w',hq,.of_steps (.one step_region) ?_⟩
 rw[hrange]
 have ho:(o::rest).toArray[0]? = some o:=by simp
 have hw:Region.wanted o (yielded (o::rest).toArray a.tmps)=true:=by simp[Region.wanted,hg0]
 have hg:=stepG_op (P:=P) (b:=b) (k:=k) (cs:=cs) (w:=w) (rest:=List.range' 1 rest.length) ho hw
 have hfin : ∀ v, (b.at a (.inRegion (o :: rest).toArray (0 :: List.range' 1 rest.length) :: k)).finish v = b.at (a.put o.dst v) (.inRegion (o :: rest).toArray (List.range' 1 rest.length) :: k) := by
  intro v;rw[Frame.finish_at,ho];rfl
 have hk:(b.at a (.inRegion (o::rest).toArray (0::List.range' 1 rest.length)::k)).kind=.deferred:=hb
 have htr:=tryRecover_deferred hk cs
 refine .of_steps (.one (step_lone_go ?_)) harr
 rw[hg,←hfin]
 simp only[Frame.at] at htr ⊢
 unfold dW
 cases hrec:recoverD cs with
 | none=>simp[stepG.apply,hop,htr,hrec]
 | some x=>obtain⟨v,cs'⟩:=x;simp[stepG.apply,hop,htr,hrec]
end Go.Proofs.YtfkmajjgkdjncaaGreatDoor
