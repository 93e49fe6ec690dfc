import Derived.Test.YtfkmajjgkdjncaaGreatDoorPsName
set_option linter.unusedVariables false
set_option linter.unusedSimpArgs false
namespace Go.Proofs.YtfkmajjgkdjncaaGreatDoor
open Go.RowKit De Wd
def XB (p : Nat) (a b c : Value) : Nat → Prop := fun k => p < k ∧ a.ownBlock ≠ some k ∧ b.ownBlock ≠ some k ∧ c.ownBlock ≠ some k
def Apart (a b : Value) : Prop := ∀ k, a.ownBlock = some k → b.ownBlock ≠ some k
theorem Apart.symm {a b : Value} (h : Apart a b) : Apart b a := fun k h1 h2 => h k h2 h1
theorem grow_own {α : Type} {X1 Y : Nat → Prop} {w Xw w9 : World} {B size p i : Nat} {e : TypeId} {v a v9 x : Value} {f : α → List Value} {G : World → α → Prop} {ps : List α} (h : Own X1 w B e size v f G ps) (hX : Below w.heap.size w Xw) (hg : Xw.grownBy w9 a.ownBlock)
 (hf : ∀ k, v9.ownBlock = some k → a.ownBlock = some k ∨ Xw.heap.size ≤ k) (hXa : ∀ k, X1 k → a.ownBlock ≠ some k) (hva : Apart v a) (hp : ∀ k, X1 k → k ≠ p) (hpB : p < B) (hY : ∀ k, X1 k → v9.ownBlock ≠ some k → Y k) : Own Y (w9.setCell ⟨p, i, none⟩ x) B e size v f G ps := by
 have h1 := h.moved hX
 have h2 : Own (fun k => X1 k ∧ v9.ownBlock ≠ some k) Xw B e size v f G ps := Own.sub h1 (fun k hk hx => ⟨hx, fun e9 => by
  rcases hf k e9 with h3 | h3
  · exact hXa k hx h3
  · omega⟩)
 have h3 := Own.ag (w' := w9.setCell ⟨p, i, none⟩ x) h2 (((Ag.refl _ Xw).grown hg (fun k hk hx => by
  rcases hx with hx | hx
  · exact hXa k hx.1 hk
  · exact hva k hx hk)).setCell (fun hx => by
  rcases hx with hx | hx
  · exact hp p hx.1 rfl
  · have := (h1.row.lt p hx).1
    omega) x)
 exact Own.sub h3 (fun k _ hx => hY k hx.1 hx.2)
theorem grow_row {w Xw w9 : World} {B size p i n : Nat} {e : TypeId} {v a x : Value} {xs : List Value} (h : w.ownsRow B e size v n xs) (hX : Below w.heap.size w Xw) (hg : Xw.grownBy w9 a.ownBlock) (hva : Apart v a) (hpB : p < B) : (w9.setCell ⟨p, i, none⟩ x).ownsRow B e size v n xs := by
 have h1 := owns_below h hX
 refine owns_ag (S := fun k => v.ownBlock = some k) h1 (((Ag.refl _ Xw).grown hg (fun k hk hx => hva k hx hk)).setCell (fun hx => ?_) x) (fun j hj => hj)
 have := (h1.lt p hx).1
 omega
theorem apart_new {w Xw : World} {B n size : Nat} {e : TypeId} {v a v9 : Value} {xs : List Value} (h : w.ownsRow B e size v n xs) (hX : Below w.heap.size w Xw) (hf : ∀ k, v9.ownBlock = some k → a.ownBlock = some k ∨ Xw.heap.size ≤ k) (hva : Apart v a) : Apart v v9 := fun k h1 h2 => by
 rcases hf k h2 with h3 | h3
 · exact hva k h1 h3
 · have := (h.lt k h1).2
   have := hX.size
   omega
structure LI (w0 w : World) (p : Nat) (U : List Uw) (k : Nat) (wv tv rv ti ri : Value) (pst : List (TK × Value × Value)) (psr : List (RU × Value)) (lt lr : List Int) : Prop where
 x : PI w p U k 0 wv tv rv ti ri
 c : Ch w0 w p
 tk : TkO (XB p rv ti ri) w w0.heap.size tv pst
 ru : RuO (XB p tv ti ri) w w0.heap.size rv psr
 it : w.ownsRow w0.heap.size 3 1 ti lt.length (lt.map (Value.int .i64))
 ir : w.ownsRow w0.heap.size 3 1 ri lr.length (lr.map (Value.int .i64))
 tr : Apart tv rv
 ta : Apart tv ti
 tb : Apart tv ri
 ra : Apart rv ti
 rb : Apart rv ri
 ab : Apart ti ri
 n1 : pst.length ≤ k
 n2 : psr.length ≤ k
 n3 : lt.length ≤ k
 n4 : lr.length ≤ k
section
variable {w0 w w' X w9 : World} {p k k' k0 d0 : Nat} {U : List Uw} {wv tv rv ti ri v9 tv0 rv0 ti0 ri0 : Value} {pst : List (TK × Value × Value)} {psr : List (RU × Value)} {lt lr : List Int}
theorem LI.ch (h : LI w0 w p U k wv tv rv ti ri pst psr lt lr) (hp : p < w0.heap.size) (hc : Ch w w' p) (hx : PI w' p U k' 0 wv tv rv ti ri) (hk : k ≤ k') : LI w0 w' p U k' wv tv rv ti ri pst psr lt lr := by
 refine ⟨hx, h.c.trans hc, Own.ag h.tk (hc.ag.sub (fun j _ hj => ?_)), Own.ag h.ru (hc.ag.sub (fun j _ hj => ?_)), owns_ag h.it hc.ag (fun j hj => ?_), owns_ag h.ir hc.ag (fun j hj => ?_), h.tr, h.ta, h.tb, h.ra, h.rb, h.ab, Nat.le_trans h.n1 hk, Nat.le_trans h.n2 hk, Nat.le_trans h.n3 hk, Nat.le_trans h.n4 hk⟩
 · rcases hj with h1 | h1
   · exact Nat.ne_of_gt h1.1
   · have := (h.tk.row.lt j h1).1
     show j ≠ p
     omega
 · rcases hj with h1 | h1
   · exact Nat.ne_of_gt h1.1
   · have := (h.ru.row.lt j h1).1
     show j ≠ p
     omega
 · have := (h.it.lt j hj).1
   omega
 · have := (h.ir.lt j hj).1
   omega
theorem PI.set3 {d : Nat} (h : PI w p U k d wv tv rv ti ri) (x : Value) : PI (w.setCell ⟨p, 3, none⟩ x) p U k d wv x rv ti ri :=
 ⟨by have := h.hh; simp [World.setCell, Array.getElem?_modify, this], row_ne h.row h.far, h.far, h.le, h.small, h.last⟩
theorem PI.set4 {d : Nat} (h : PI w p U k d wv tv rv ti ri) (x : Value) : PI (w.setCell ⟨p, 4, none⟩ x) p U k d wv tv x ti ri :=
 ⟨by have := h.hh; simp [World.setCell, Array.getElem?_modify, this], row_ne h.row h.far, h.far, h.le, h.small, h.last⟩
theorem PI.set5 {d : Nat} (h : PI w p U k d wv tv rv ti ri) (x : Value) : PI (w.setCell ⟨p, 5, none⟩ x) p U k d wv tv rv x ri :=
 ⟨by have := h.hh; simp [World.setCell, Array.getElem?_modify, this], row_ne h.row h.far, h.far, h.le, h.small, h.last⟩
theorem PI.set6 {d : Nat} (h : PI w p U k d wv tv rv ti ri) (x : Value) : PI (w.setCell ⟨p, 6, none⟩ x) p U k d wv tv rv ti x :=
 ⟨by have := h.hh; simp [World.setCell, Array.getElem?_modify, this], row_ne h.row h.far, h.far, h.le, h.small, h.last⟩
theorem own_set {α : Type} {X1 : Nat → Prop} {B size i : Nat} {e : TypeId} {v x : Value} {f : α → List Value} {G : World → α → Prop} {ps : List α} (h : Own X1 w B e size v f G ps) (hp : ∀ k, X1 k → k ≠ p) (hpB : p < B) : Own X1 (w.setCell ⟨p, i, none⟩ x) B e size v f G ps :=
 Own.ag h ((Ag.refl _ _).setCell (fun hx => by
  rcases hx with hx | hx
  · exact hp p hx rfl
  · have := (h.row.lt p hx).1
    omega) x)
theorem LI.pushR (h0 : PI w0 p U k0 d0 wv tv0 rv0 ti0 ri0) (h : LI w0 w p U k wv tv rv ti ri pst psr lt lr) {q : RU × Value} (hX : Below w.heap.size w X) (hown : w9.ownsRow w0.heap.size 63 3 v9 (psr.length + 1) (psr.flatMap three ++ three q)) (hg : X.grownBy w9 rv.ownBlock)
 (hf : ∀ k, v9.ownBlock = some k → rv.ownBlock = some k ∨ X.heap.size ≤ k) (hb9 : Below w0.heap.size X w9) (hq : KP (fun k => XB p tv ti ri k ∧ rv.ownBlock ≠ some k) w (fun w' => StsAre w' q.2 q.1.steps)) (hn : psr.length + 1 ≤ k) :
 LI w0 (w9.setCell ⟨p, 4, none⟩ v9) p U k wv tv v9 ti ri pst (psr ++ [q]) lt lr := by
 have hp := h0.lt
 have hb : Below w0.heap.size w w9 := Below.trans (bel_low h.c.size hX) hb9
 have hru := (h.ru.moved hX).push (p := q) hown hg hf (hq.to (Ag.of hX))
 exact ⟨(h0.under h.x hb).set4 v9, (h.c.under hb).trans (Ch.set _ _ _ _),
  grow_own h.tk hX hg hf (fun k hx => hx.2.1) h.tr (fun k hx => Nat.ne_of_gt hx.1) hp (fun k hx h9 => ⟨hx.1, h9, hx.2.2⟩),
  own_set hru (fun k hx => Nat.ne_of_gt hx.1) hp, grow_row h.it hX hg h.ra.symm hp, grow_row h.ir hX hg h.rb.symm hp,
  apart_new h.tk.row hX hf h.tr, h.ta, h.tb, (apart_new h.it hX hf h.ra.symm).symm, (apart_new h.ir hX hf h.rb.symm).symm, h.ab, h.n1, by simpa using hn, h.n3, h.n4⟩
theorem LI.pushT (h0 : PI w0 p U k0 d0 wv tv0 rv0 ti0 ri0) (h : LI w0 w p U k wv tv rv ti ri pst psr lt lr) {q : TK × Value × Value} (hX : Below w.heap.size w X) (hown : w9.ownsRow w0.heap.size 54 6 v9 (pst.length + 1) (pst.flatMap six ++ six q)) (hg : X.grownBy w9 tv.ownBlock)
 (hf : ∀ k, v9.ownBlock = some k → tv.ownBlock = some k ∨ X.heap.size ≤ k) (hb9 : Below w0.heap.size X w9) (hq : KP (fun k => XB p rv ti ri k ∧ tv.ownBlock ≠ some k) w (fun w' => ReIs w' q.1.re q.2.1 q.2.2)) (hn : pst.length + 1 ≤ k) :
 LI w0 (w9.setCell ⟨p, 3, none⟩ v9) p U k wv v9 rv ti ri (pst ++ [q]) psr lt lr := by
 have hp := h0.lt
 have hb : Below w0.heap.size w w9 := Below.trans (bel_low h.c.size hX) hb9
 have hru := (h.tk.moved hX).push (p := q) hown hg hf (hq.to (Ag.of hX))
 exact ⟨(h0.under h.x hb).set3 v9, (h.c.under hb).trans (Ch.set _ _ _ _),
  own_set hru (fun k hx => Nat.ne_of_gt hx.1) hp,
  grow_own h.ru hX hg hf (fun k hx => hx.2.1) h.tr.symm (fun k hx => Nat.ne_of_gt hx.1) hp (fun k hx h9 => ⟨hx.1, h9, hx.2.2⟩),
  grow_row h.it hX hg h.ta.symm hp, grow_row h.ir hX hg h.tb.symm hp,
  (apart_new h.ru.row hX hf h.tr.symm).symm, (apart_new h.it hX hf h.ta.symm).symm, (apart_new h.ir hX hf h.tb.symm).symm, h.ra, h.rb, h.ab, by simpa using hn, h.n2, h.n3, h.n4⟩
theorem LI.pushA (h0 : PI w0 p U k0 d0 wv tv0 rv0 ti0 ri0) (h : LI w0 w p U k wv tv rv ti ri pst psr lt lr) {q : Int} (hX : Below w.heap.size w X) (hown : w9.ownsRow w0.heap.size 3 1 v9 (lt.length + 1) (lt.map (Value.int .i64) ++ [.int .i64 q])) (hg : X.grownBy w9 ti.ownBlock)
 (hf : ∀ k, v9.ownBlock = some k → ti.ownBlock = some k ∨ X.heap.size ≤ k) (hb9 : Below w0.heap.size X w9) (hn : lt.length + 1 ≤ k) :
 LI w0 (w9.setCell ⟨p, 5, none⟩ v9) p U k wv tv rv v9 ri pst psr (lt ++ [q]) lr := by
 have hp := h0.lt
 have hb : Below w0.heap.size w w9 := Below.trans (bel_low h.c.size hX) hb9
 have hw : (w9.setCell ⟨p, 5, none⟩ v9).ownsRow w0.heap.size 3 1 v9 (lt ++ [q]).length ((lt ++ [q]).map (Value.int .i64)) := by
  rw [List.length_append, List.map_append]
  exact owns_ag (S := fun k => v9.ownBlock = some k) hown ((Ag.refl _ _).setCell (fun hx => by have := (hown.lt p hx).1; omega) _) (fun j hj => hj)
 exact ⟨(h0.under h.x hb).set5 v9, (h.c.under hb).trans (Ch.set _ _ _ _),
  grow_own h.tk hX hg hf (fun k hx => hx.2.2.1) h.ta (fun k hx => Nat.ne_of_gt hx.1) hp (fun k hx h9 => ⟨hx.1, hx.2.1, h9, hx.2.2.2⟩),
  grow_own h.ru hX hg hf (fun k hx => hx.2.2.1) h.ra (fun k hx => Nat.ne_of_gt hx.1) hp (fun k hx h9 => ⟨hx.1, hx.2.1, h9, hx.2.2.2⟩),
  hw, grow_row h.ir hX hg h.ab.symm hp,
  h.tr, apart_new h.tk.row hX hf h.ta, h.tb, apart_new h.ru.row hX hf h.ra, h.rb, (apart_new h.ir hX hf h.ab.symm).symm, h.n1, h.n2, by simpa using hn, h.n4⟩
theorem LI.pushB (h0 : PI w0 p U k0 d0 wv tv0 rv0 ti0 ri0) (h : LI w0 w p U k wv tv rv ti ri pst psr lt lr) {q : Int} (hX : Below w.heap.size w X) (hown : w9.ownsRow w0.heap.size 3 1 v9 (lr.length + 1) (lr.map (Value.int .i64) ++ [.int .i64 q])) (hg : X.grownBy w9 ri.ownBlock)
 (hf : ∀ k, v9.ownBlock = some k → ri.ownBlock = some k ∨ X.heap.size ≤ k) (hb9 : Below w0.heap.size X w9) (hn : lr.length + 1 ≤ k) :
 LI w0 (w9.setCell ⟨p, 6, none⟩ v9) p U k wv tv rv ti v9 pst psr lt (lr ++ [q]) := by
 have hp := h0.lt
 have hb : Below w0.heap.size w w9 := Below.trans (bel_low h.c.size hX) hb9
 have hw : (w9.setCell ⟨p, 6, none⟩ v9).ownsRow w0.heap.size 3 1 v9 (lr ++ [q]).length ((lr ++ [q]).map (Value.int .i64)) := by
  rw [List.length_append, List.map_append]
  exact owns_ag (S := fun k => v9.ownBlock = some k) hown ((Ag.refl _ _).setCell (fun hx => by have := (hown.lt p hx).1; omega) _) (fun j hj => hj)
 exact ⟨(h0.under h.x hb).set6 v9, (h.c.under hb).trans (Ch.set _ _ _ _),
  grow_own h.tk hX hg hf (fun k hx => hx.2.2.2) h.tb (fun k hx => Nat.ne_of_gt hx.1) hp (fun k hx h9 => ⟨hx.1, hx.2.1, hx.2.2.1, h9⟩),
  grow_own h.ru hX hg hf (fun k hx => hx.2.2.2) h.rb (fun k hx => Nat.ne_of_gt hx.1) hp (fun k hx h9 => ⟨hx.1, hx.2.1, hx.2.2.1, h9⟩),
  grow_row h.it hX hg h.ab hp, hw,
  h.tr, h.ta, apart_new h.tk.row hX hf h.tb, h.ra, apart_new h.ru.row hX hf h.rb, apart_new h.it hX hf h.ab, h.n1, h.n2, h.n3, by simpa using hn⟩
end
end Go.Proofs.YtfkmajjgkdjncaaGreatDoor
