import Derived.Test.YtfkmajjgkdjncaaGreatDoorPsName
set_option linter.unusedVariables false
set_option linter.unusedSimpArgs false
namespace Go.Proofs.YtfkmajjgkdjncaaGreatDoor
open Go.RowKit De Wd
def XB (p:Nat) (a b c:Value):Nat→Prop:=fun k=>p<k∧a.ownBlock≠some k∧b.ownBlock≠some k∧c.ownBlock≠some k
def Apart (a b:Value):Prop:=∀k,a.ownBlock=some k→b.ownBlock≠some k
theorem Apart.symm {a b:Value} (h:Apart a b):Apart b a:=fun k h1 h2=>h k h2 h1
theorem qG {α:Type} {X1 Y:Nat→Prop} {w Xw w9:World} {B size p i:Nat} {e:TypeId} {v a v9 x:Value} {f:α→List Value} {G:World→α→Prop} {ps:List α} (h:Own X1 w B e size v f G ps) (hX:Below w.heap.size w Xw) (hg:Xw.grownBy w9 a.ownBlock)
 (hf:∀k,v9.ownBlock=some k→a.ownBlock=some k∨Xw.heap.size≤k) (YM:∀k,X1 k→a.ownBlock≠some k) (hva:Apart v a) (hp:∀k,X1 k→k≠p) (YN:p<B) (hY:∀k,X1 k→v9.ownBlock≠some k→Y k):Own Y (w9.setCell ⟨p,i,none⟩ x) B e size v f G ps:=by
 have h1:=h.moved hX
 have h2 : Own (fun k => X1 k ∧ v9.ownBlock ≠ some k) Xw B e size v f G ps := Own.sub h1 (fun k hk hx => ⟨hx, fun e9 => by
  rcases hf k e9 with h3|h3
  · exact YM k hx h3
  · omega⟩)
 have h3 := Own.ag (w' := w9.setCell ⟨p, i, none⟩ x) h2 (((Ag.refl _ Xw).grown hg (fun k hk hx => by
  rcases hx with hx|hx
  · exact YM k hx.1 hk
  · exact hva k hx hk)).setCell (fun hx=>by
  rcases hx with hx|hx
  · exact hp p hx.1 rfl
  · have := (h1.row.lt p hx).1
    omega) x)
 exact Own.sub h3 (fun k _ hx=>hY k hx.1 hx.2)
theorem qH {w Xw w9:World} {B size p i n:Nat} {e:TypeId} {v a x:Value} {xs:List Value} (h:w.ownsRow B e size v n xs) (hX:Below w.heap.size w Xw) (hg:Xw.grownBy w9 a.ownBlock) (hva:Apart v a) (YN:p<B):(w9.setCell ⟨p,i,none⟩ x).ownsRow B e size v n xs:=by
 have h1:=bS h hX
 refine dU (S:=fun k=>v.ownBlock=some k) h1 (((Ag.refl _ Xw).grown hg (fun k hk hx=>hva k hx hk)).setCell (fun hx=>?_) x) (fun j hj=>hj)
 have:=(h1.lt p hx).1
 omega
theorem ig {w Xw : World} {B n size : Nat} {e : TypeId} {v a v9 : Value} {xs : List Value} (h : w.ownsRow B e size v n xs) (hX : Below w.heap.size w Xw) (hf : ∀ k, v9.ownBlock = some k → a.ownBlock = some k ∨ Xw.heap.size ≤ k) (hva : Apart v a) : Apart v v9 := fun k h1 h2 => by
 rcases hf k h2 with h3|h3
 · exact hva k h1 h3
 · have := (h.lt k h1).2
   have:=hX.size
   omega
structure LI (w0 w:World) (p:Nat) (U:List Uw) (k:Nat) (wv tv rv ti ri:Value) (aD:List (TK×Value×Value)) (aG:List (RU×Value)) (lt lr:List Int):Prop where
 x:PI w p U k 0 wv tv rv ti ri
 c:Ch w0 w p
 tk:J8 (XB p rv ti ri) w w0.heap.size tv aD
 ru:Ns (XB p tv ti ri) w w0.heap.size rv aG
 it:w.ownsRow w0.heap.size 3 1 ti lt.length (lt.map (Value.int .i64))
 ir:w.ownsRow w0.heap.size 3 1 ri lr.length (lr.map (Value.int .i64))
 tr:Apart tv rv
 ta:Apart tv ti
 tb:Apart tv ri
 ra:Apart rv ti
 rb:Apart rv ri
 ab:Apart ti ri
 n1:aD.length≤k
 n2:aG.length≤k
 n3:lt.length≤k
 n4:lr.length≤k
section
variable {w0 w w' X w9:World} {p k k' k0 d0:Nat} {U:List Uw} {wv tv rv ti ri v9 dz dA dB dD:Value} {aD:List (TK×Value×Value)} {aG:List (RU×Value)} {lt lr:List Int}
theorem LI.ch (h:LI w0 w p U k wv tv rv ti ri aD aG lt lr) (hp:p<w0.heap.size) (hc:Ch w w' p) (hx:PI w' p U k' 0 wv tv rv ti ri) (hk:k≤k'):LI w0 w' p U k' wv tv rv ti ri aD aG lt lr:=by
 refine⟨hx,h.c.trans hc,Own.ag h.tk (hc.ag.sub (fun j _ hj=>?_)),Own.ag h.ru (hc.ag.sub (fun j _ hj=>?_)),dU h.it hc.ag (fun j hj=>?_),dU h.ir hc.ag (fun j hj=>?_),h.tr,h.ta,h.tb,h.ra,h.rb,h.ab,Nat.le_trans h.n1 hk,Nat.le_trans h.n2 hk,Nat.le_trans h.n3 hk,Nat.le_trans h.n4 hk⟩
 · rcases hj with h1 | h1
   · exact Nat.ne_of_gt h1.1
   · have := (h.tk.row.lt j h1).1
     show j≠p
     omega
 · rcases hj with h1 | h1
   · exact Nat.ne_of_gt h1.1
   · have := (h.ru.row.lt j h1).1
     show j≠p
     omega
 · have := (h.it.lt j hj).1
   omega
 · have := (h.ir.lt j hj).1
   omega
theorem PI.Lr {d:Nat} (h:PI w p U k d wv tv rv ti ri) (x:Value):PI (w.setCell ⟨p,3,none⟩ x) p U k d wv x rv ti ri:=
 ⟨by have:=h.hh;simp[World.setCell,Array.getElem?_modify,this],uy h.row h.far,h.far,h.le,h.small,h.last⟩
theorem PI.Xe {d:Nat} (h:PI w p U k d wv tv rv ti ri) (x:Value):PI (w.setCell ⟨p,4,none⟩ x) p U k d wv tv x ti ri:=
 ⟨by have:=h.hh;simp[World.setCell,Array.getElem?_modify,this],uy h.row h.far,h.far,h.le,h.small,h.last⟩
theorem PI.KF {d:Nat} (h:PI w p U k d wv tv rv ti ri) (x:Value):PI (w.setCell ⟨p,5,none⟩ x) p U k d wv tv rv x ri:=
 ⟨by have:=h.hh;simp[World.setCell,Array.getElem?_modify,this],uy h.row h.far,h.far,h.le,h.small,h.last⟩
theorem PI.ZI {d:Nat} (h:PI w p U k d wv tv rv ti ri) (x:Value):PI (w.setCell ⟨p,6,none⟩ x) p U k d wv tv rv ti x:=
 ⟨by have:=h.hh;simp[World.setCell,Array.getElem?_modify,this],uy h.row h.far,h.far,h.le,h.small,h.last⟩
theorem Ki {α:Type} {X1:Nat→Prop} {B size i:Nat} {e:TypeId} {v x:Value} {f:α→List Value} {G:World→α→Prop} {ps:List α} (h:Own X1 w B e size v f G ps) (hp:∀k,X1 k→k≠p) (YN:p<B):Own X1 (w.setCell ⟨p,i,none⟩ x) B e size v f G ps:=
 Own.ag h ((Ag.refl _ _).setCell (fun hx => by
  rcases hx with hx|hx
  · exact hp p hx rfl
  · have := (h.row.lt p hx).1
    omega) x)
theorem LI.Ry (h0:PI w0 p U k0 d0 wv dz dA dB dD) (h:LI w0 w p U k wv tv rv ti ri aD aG lt lr) {q:RU×Value} (hX:Below w.heap.size w X) (hown:w9.ownsRow w0.heap.size 63 3 v9 (aG.length+1) (aG.flatMap three++three q)) (hg:X.grownBy w9 rv.ownBlock)
 (hf:∀k,v9.ownBlock=some k→rv.ownBlock=some k∨X.heap.size≤k) (bF:Below w0.heap.size X w9) (hq:KP (fun k=>XB p tv ti ri k∧rv.ownBlock≠some k) w (fun w'=>jD w' q.2 q.1.steps)) (hn:aG.length+1≤k) :
 LI w0 (w9.setCell ⟨p,4,none⟩ v9) p U k wv tv v9 ti ri aD (aG++[q]) lt lr:=by
 have hp:=h0.lt
 have hb:Below w0.heap.size w w9:=Below.trans (jo h.c.size hX) bF
 have BZ:=(h.ru.moved hX).push (p:=q) hown hg hf (hq.to (Ag.of hX))
 exact⟨(h0.under h.x hb).Xe v9,(h.c.under hb).trans (Ch.set _ _ _ _),
  qG h.tk hX hg hf (fun k hx=>hx.2.1) h.tr (fun k hx=>Nat.ne_of_gt hx.1) hp (fun k hx h9=>⟨hx.1,h9,hx.2.2⟩),
  Ki BZ (fun k hx=>Nat.ne_of_gt hx.1) hp,qH h.it hX hg h.ra.symm hp,qH h.ir hX hg h.rb.symm hp,
  ig h.tk.row hX hf h.tr,h.ta,h.tb,(ig h.it hX hf h.ra.symm).symm,(ig h.ir hX hf h.rb.symm).symm,h.ab,h.n1,by simpa using hn,h.n3,h.n4⟩
theorem LI.EK (h0:PI w0 p U k0 d0 wv dz dA dB dD) (h:LI w0 w p U k wv tv rv ti ri aD aG lt lr) {q:TK×Value×Value} (hX:Below w.heap.size w X) (hown:w9.ownsRow w0.heap.size 54 6 v9 (aD.length+1) (aD.flatMap six++six q)) (hg:X.grownBy w9 tv.ownBlock)
 (hf:∀k,v9.ownBlock=some k→tv.ownBlock=some k∨X.heap.size≤k) (bF:Below w0.heap.size X w9) (hq:KP (fun k=>XB p rv ti ri k∧tv.ownBlock≠some k) w (fun w'=>bI w' q.1.re q.2.1 q.2.2)) (hn:aD.length+1≤k) :
 LI w0 (w9.setCell ⟨p,3,none⟩ v9) p U k wv v9 rv ti ri (aD++[q]) aG lt lr:=by
 have hp:=h0.lt
 have hb:Below w0.heap.size w w9:=Below.trans (jo h.c.size hX) bF
 have BZ:=(h.tk.moved hX).push (p:=q) hown hg hf (hq.to (Ag.of hX))
 exact⟨(h0.under h.x hb).Lr v9,(h.c.under hb).trans (Ch.set _ _ _ _),
  Ki BZ (fun k hx=>Nat.ne_of_gt hx.1) hp,
  qG h.ru hX hg hf (fun k hx=>hx.2.1) h.tr.symm (fun k hx=>Nat.ne_of_gt hx.1) hp (fun k hx h9=>⟨hx.1,h9,hx.2.2⟩),
  qH h.it hX hg h.ta.symm hp,qH h.ir hX hg h.tb.symm hp,
  (ig h.ru.row hX hf h.tr.symm).symm,(ig h.it hX hf h.ta.symm).symm,(ig h.ir hX hf h.tb.symm).symm,h.ra,h.rb,h.ab,by simpa using hn,h.n2,h.n3,h.n4⟩
theorem LI.Kl (h0:PI w0 p U k0 d0 wv dz dA dB dD) (h:LI w0 w p U k wv tv rv ti ri aD aG lt lr) {q:Int} (hX:Below w.heap.size w X) (hown:w9.ownsRow w0.heap.size 3 1 v9 (lt.length+1) (lt.map (Value.int .i64)++[.int .i64 q])) (hg:X.grownBy w9 ti.ownBlock)
 (hf:∀k,v9.ownBlock=some k→ti.ownBlock=some k∨X.heap.size≤k) (bF:Below w0.heap.size X w9) (hn:lt.length+1≤k) :
 LI w0 (w9.setCell ⟨p,5,none⟩ v9) p U k wv tv rv v9 ri aD aG (lt++[q]) lr:=by
 have hp:=h0.lt
 have hb:Below w0.heap.size w w9:=Below.trans (jo h.c.size hX) bF
 have hw:(w9.setCell ⟨p,5,none⟩ v9).ownsRow w0.heap.size 3 1 v9 (lt++[q]).length ((lt++[q]).map (Value.int .i64)):=by
  rw[List.length_append,List.map_append]
  exact dU (S:=fun k=>v9.ownBlock=some k) hown ((Ag.refl _ _).setCell (fun hx=>by have:=(hown.lt p hx).1;omega) _) (fun j hj=>hj)
 exact⟨(h0.under h.x hb).KF v9,(h.c.under hb).trans (Ch.set _ _ _ _),
  qG h.tk hX hg hf (fun k hx=>hx.2.2.1) h.ta (fun k hx=>Nat.ne_of_gt hx.1) hp (fun k hx h9=>⟨hx.1,hx.2.1,h9,hx.2.2.2⟩),
  qG h.ru hX hg hf (fun k hx=>hx.2.2.1) h.ra (fun k hx=>Nat.ne_of_gt hx.1) hp (fun k hx h9=>⟨hx.1,hx.2.1,h9,hx.2.2.2⟩),
  hw,qH h.ir hX hg h.ab.symm hp,
  h.tr,ig h.tk.row hX hf h.ta,h.tb,ig h.ru.row hX hf h.ra,h.rb,(ig h.ir hX hf h.ab.symm).symm,h.n1,h.n2,by simpa using hn,h.n4⟩
theorem LI.pushB (h0:PI w0 p U k0 d0 wv dz dA dB dD) (h:LI w0 w p U k wv tv rv ti ri aD aG lt lr) {q:Int} (hX:Below w.heap.size w X) (hown:w9.ownsRow w0.heap.size 3 1 v9 (lr.length+1) (lr.map (Value.int .i64)++[.int .i64 q])) (hg:X.grownBy w9 ri.ownBlock)
 (hf:∀k,v9.ownBlock=some k→ri.ownBlock=some k∨X.heap.size≤k) (bF:Below w0.heap.size X w9) (hn:lr.length+1≤k) :
 LI w0 (w9.setCell ⟨p,6,none⟩ v9) p U k wv tv rv ti v9 aD aG lt (lr++[q]):=by
 have hp:=h0.lt
 have hb:Below w0.heap.size w w9:=Below.trans (jo h.c.size hX) bF
 have hw:(w9.setCell ⟨p,6,none⟩ v9).ownsRow w0.heap.size 3 1 v9 (lr++[q]).length ((lr++[q]).map (Value.int .i64)):=by
  rw[List.length_append,List.map_append]
  exact dU (S:=fun k=>v9.ownBlock=some k) hown ((Ag.refl _ _).setCell (fun hx=>by have:=(hown.lt p hx).1;omega) _) (fun j hj=>hj)
 exact⟨(h0.under h.x hb).ZI v9,(h.c.under hb).trans (Ch.set _ _ _ _),
  qG h.tk hX hg hf (fun k hx=>hx.2.2.2) h.tb (fun k hx=>Nat.ne_of_gt hx.1) hp (fun k hx h9=>⟨hx.1,hx.2.1,hx.2.2.1,h9⟩),
  qG h.ru hX hg hf (fun k hx=>hx.2.2.2) h.rb (fun k hx=>Nat.ne_of_gt hx.1) hp (fun k hx h9=>⟨hx.1,hx.2.1,hx.2.2.1,h9⟩),
  qH h.it hX hg h.ab hp,hw,
  h.tr,h.ta,ig h.tk.row hX hf h.tb,h.ra,ig h.ru.row hX hf h.rb,ig h.it hX hf h.ab,h.n1,h.n2,h.n3,by simpa using hn⟩
end
end Go.Proofs.YtfkmajjgkdjncaaGreatDoor
