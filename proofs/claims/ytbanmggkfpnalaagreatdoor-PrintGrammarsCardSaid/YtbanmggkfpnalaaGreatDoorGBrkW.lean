/- gobolaw11.GramBreaks, over what Make gives. -/
import Derived.Test.YtbanmggkfpnalaaGreatDoorGBrk
import Derived.Test.YtbanmggkfpnalaaGreatDoorGMkE
import Derived.Test.YtbanmggkfpnalaaGreatDoorArgIntss
import Derived.Deep.CutBlock
set_option linter.unusedVariables false
set_option linter.unusedSimpArgs false
namespace Go.Proofs.YtbanmggkfpnalaaGreatDoor
open Go.RowKit Ru

/-- a broken grammar in memory: its new tokens x apart from g, its rules in g; what its check tells -/
def BK (w : World) (pg : Nat) (xv s8 s9 : Value) (wx : World) : Prop := ∃ (code at_ : Int) (T' : List TK) (R' : List RU) (tv' rv' : Value), s8 = .int .i64 code ∧ s9 = .int .i64 at_ ∧
  wx.heap[pg]? = some (.cells #[tv', rv'] 35 (0, 0)) ∧ KP (fun k => k ≠ pg) wx (fun w' => TksAre w' xv T' ∧ RusAre w' rv' R') ∧ TFit T' ∧ RFit R' ∧ T'.length ≤ 1000 ∧ R'.length ≤ 1000 ∧ chkE T' R' = (code, at_) ∧ code ≠ 0 ∧ Below w.heap.size w wx
theorem flat_set {α : Type} (f : α → List Value) (W : Nat) (hW : ∀ a, (f a).length = W) : ∀ (l : List α) (i j : Nat) (p p' : α) (u : Value), l[i]? = some p → j < W → f p' = (f p).set j u → (l.set i p').flatMap f = (l.flatMap f).set (i * W + j) u := by
  intro l
  induction l with
  | nil => intro i j p p' u h; simp at h
  | cons a l ih =>
    intro i j p p' u h hj hf
    cases i with
    | zero =>
      simp at h; subst h
      have := hW a
      simp only [List.set_cons_zero, List.flatMap_cons, Nat.zero_mul, Nat.zero_add]
      rw [List.set_append_left _ _ (by omega), hf]
    | succ i =>
      simp only [List.set_cons_succ, List.flatMap_cons]
      have := hW a
      rw [ih i j p p' u (by simpa using h) hj hf, List.set_append_right _ _ (by rw [this, Nat.succ_mul]; omega)]
      congr 2
      rw [this, Nat.succ_mul]; omega
/-- one cell of a token turned -/
theorem tko_turn {X : Nat → Prop} {w : World} {B n c g i j : Nat} {ps : List (TK × Value × Value)} {p p' : TK × Value × Value} {u : Value} (h : TkO X w B (.slice (some ⟨g, 0, none⟩) n c) ps) (hn : ps.length = n) (hi : ps[i]? = some p) (hj : j < 6) (hf : six p' = (six p).set j u)
    (hp : KP (fun k => X k ∧ (Value.slice (some ⟨g, 0, none⟩) n c).ownBlock ≠ some k) w (fun w' => ReIs w' p'.1.re p'.2.1 p'.2.2)) : TkO X (w.setCell ⟨g, i * 6 + j, none⟩ u) B (.slice (some ⟨g, 0, none⟩) n c) (ps.set i p') := by
  have hag : Ag (fun k => X k ∧ (Value.slice (some ⟨g, 0, none⟩) n c).ownBlock ≠ some k) w (w.setCell ⟨g, i * 6 + j, none⟩ u) := (Ag.refl _ _).setCell (fun h => h.2 rfl) _
  refine ⟨?_, fun q hq => ?_⟩
  · have hr := h.row
    rw [hn] at hr
    have := owns_turn (j := i * 6 + j) u hr
    rw [List.length_set, hn, flat_set six 6 (fun _ => rfl) ps i j p p' u hi hj hf]
    exact this
  · rcases List.mem_or_eq_of_mem_set hq with h1 | h1
    · exact (h.keep q h1).to hag
    · subst h1; exact hp.to hag
theorem re_star {w : World} {b : Nat} {e : RE} {sv lv : Value} (he : ReIs w e sv lv) (hb : w.heap[b]? = some (.cells #[.int .i64 e.kind, sv, lv] 25 (0, 0))) : ReIs w (.mk 5 [] [e]) (.slice none 0 0) (.slice (some ⟨b, 0, none⟩) 1 1) := by
  refine .mk 5 [] _ _ _ [(e.kind, sv, lv)] (Row.nil w) (Row.owned (row_block (n := 1) (size := 3) hb rfl (by decide))) rfl ?_ ?_
  · intro i c q hc hq
    match i, hc, hq with
    | 0, hc, hq => cases hc; cases hq; rfl
    | (n + 1), hc, hq => simp at hc
  · intro i c q hc hq
    match i, hc, hq with
    | 0, hc, hq => cases hc; cases hq; exact he
    | (n + 1), hc, hq => simp at hc
theorem tko_kp {w : World} {B pg : Nat} {v : Value} {ps : List (TK × Value × Value)} (h : TkO (fun k => k ≠ pg) w B v ps) (hv : v.ownBlock ≠ some pg) : KP (fun k => k ≠ pg) w (fun w' => TksAre w' v (ps.map (·.1))) :=
  fun w' h' => TkO.are (Own.ag h (h'.sub (fun k _ hk => by rcases hk with h1 | h1; exact h1; exact fun e => hv (e ▸ h1))))
theorem tfit_set {T : List TK} {i : Nat} {t : TK} (h : TFit T) (ht : t.name.size ≤ 1000 ∧ t.re.Fit) : TFit (T.set i t) := by
  rw [tfit_mem] at h ⊢
  intro x hx
  rcases List.mem_or_eq_of_mem_set hx with h1 | h1
  · exact h x h1
  · subst h1; exact ht
/-- ahead of the switch: x is a copy of g's tokens, apart -/
structure BX (w w2 : World) (n rn gx c9 : Nat) (pst : List (TK × Value × Value)) (T : List TK) (R : List RU) (tv rv : Value) (wx : World) : Prop where
  own : TkO (fun k => k ≠ w2.heap.size) wx w2.heap.size (.slice (some ⟨gx, 0, none⟩) n c9) pst
  len : pst.length = n
  toks : pst.map (·.1) = T
  hg : wx.heap[w2.heap.size]? = some (.cells #[tv, rv] 35 (0, 0))
  rus : KP (fun k => k ≠ w2.heap.size ∧ k ≠ gx) wx (fun w' => RusAre w' rv R)
  bel : Below w.heap.size w wx
  ne : gx ≠ w2.heap.size
  ge : w.heap.size ≤ w2.heap.size
  gel : w2.heap.size ≤ gx
  mt : MTok T
  rg : ∀ r ∈ R, RGood T r
  rl : R.length ≤ 3
theorem BX.cells {w w2 : World} {n rn gx c9 : Nat} {pst : List (TK × Value × Value)} {T : List TK} {R : List RU} {tv rv : Value} {wx : World} (h : BX w w2 n rn gx c9 pst T R tv rv wx) {i : Nat} {p : TK × Value × Value} (hp : pst[i]? = some p) :
    ∀ j, j < 6 → ∀ u, (six p)[j]? = some u → wx.cell? ⟨gx, i * 6 + j, none⟩ = some u := by
  intro j hj u hu
  have hr := h.own.row
  have hf := fm_get six 6 (fun _ => rfl) pst i j p hp hj
  have := hr.cells (g := gx) rfl (i * 6 + j) u (by rw [hf]; exact hu)
  have hadd : ∀ k : Nat, ((⟨gx, 0, none⟩ : Addr).add k) = ⟨gx, k, none⟩ := fun k => by unfold Addr.add; by_cases e : k = 0 <;> simp [e]
  rw [hadd] at this
  exact this
theorem BX.frozen {w w2 : World} {n rn gx c9 : Nat} {pst : List (TK × Value × Value)} {T : List TK} {R : List RU} {tv rv : Value} {wx : World} (h : BX w w2 n rn gx c9 pst T R tv rv wx) : (∀ j, wx.frozen? ⟨gx, j, none⟩ = false) ∧ gx < wx.heap.size := by
  rcases h.own.row.2 with ⟨h0, -⟩ | ⟨g, cap, cur, hv, hb, hg, -⟩
  · cases h0
  · cases hv
    exact ⟨fun j => by simp [World.frozen?, hg], hp_lt hg⟩
/-- one cell of x turned -/
theorem BX.turn {w w2 : World} {n rn gx c9 : Nat} {pst : List (TK × Value × Value)} {T : List TK} {R : List RU} {tv rv : Value} {wx : World} (h : BX w w2 n rn gx c9 pst T R tv rv wx) {i j : Nat} {p p' : TK × Value × Value} {u : Value} {code at_ : Int} (hi : pst[i]? = some p) (hj : j < 6) (hf : six p' = (six p).set j u)
    (hre : p'.1.re = p.1.re) (hu : p'.2 = p.2) (ht : p'.1.name.size ≤ 1000 ∧ p'.1.re.Fit) (hc : chkE (T.set i p'.1) R = (code, at_)) (hne : code ≠ 0) : BK w w2.heap.size (.slice (some ⟨gx, 0, none⟩) n c9) (.int .i64 code) (.int .i64 at_) (wx.setCell ⟨gx, i * 6 + j, none⟩ u) := by
  have hk := h.own.keep p (List.mem_of_getElem? hi)
  have ht1 := tko_turn (u := u) h.own h.len hi hj hf (hk.mono fun w' h' => by rw [hre, hu]; exact h')
  have hag : Ag (fun k => k ≠ w2.heap.size ∧ k ≠ gx) wx (wx.setCell ⟨gx, i * 6 + j, none⟩ u) := (Ag.refl _ _).setCell (fun h => h.2 rfl) _
  have hl := h.mt.len
  refine ⟨code, at_, T.set i p'.1, R, tv, rv, rfl, rfl, ?_, ?_, tfit_set h.mt.fit ht, RGood.fit h.rg, by simp; omega, by have := h.rl; omega, hc, hne, h.bel.setCell (Nat.le_trans h.ge h.gel) _⟩
  · rw [Below.heap_setCell _ _ _ _ (fun e => h.ne e.symm)]; exact h.hg
  · have h1 := tko_kp ht1 (by simp [Value.ownBlock]; exact h.ne)
    rw [List.map_set, h.toks] at h1
    exact kp_and h1 ((h.rus.to hag).sub (fun k hk hS => hS.1)) (fun w' a b => ⟨a, b⟩)
/-- x turned otherwise -/
theorem BX.fin {w w2 : World} {n rn gx c9 : Nat} {pst ps' : List (TK × Value × Value)} {T : List TK} {R : List RU} {tv rv : Value} {wx wz : World} (h : BX w w2 n rn gx c9 pst T R tv rv wx) {i : Nat} {t : TK} {code at_ : Int}
    (hown : TkO (fun k => k ≠ w2.heap.size) wz w2.heap.size (.slice (some ⟨gx, 0, none⟩) n c9) ps') (hag : Ag (fun k => k ≠ gx) wx wz) (hmap : ps'.map (·.1) = T.set i t) (hb : Below w.heap.size w wz)
    (ht : t.name.size ≤ 1000 ∧ t.re.Fit) (hc : chkE (T.set i t) R = (code, at_)) (hne : code ≠ 0) : BK w w2.heap.size (.slice (some ⟨gx, 0, none⟩) n c9) (.int .i64 code) (.int .i64 at_) wz := by
  have hl := h.mt.len
  refine ⟨code, at_, T.set i t, R, tv, rv, rfl, rfl, ?_, ?_, tfit_set h.mt.fit ht, RGood.fit h.rg, by simp; omega, by have := h.rl; omega, hc, hne, hb⟩
  · rw [hag.block _ (hp_lt h.hg) (fun e => h.ne e.symm)]; exact h.hg
  · have h1 := tko_kp hown (by simp [Value.ownBlock]; exact h.ne)
    rw [hmap] at h1
    exact kp_and h1 ((h.rus.to (hag.sub (fun k _ hS => hS.2))).sub (fun k hk hS => hS.1)) (fun w' a b => ⟨a, b⟩)
theorem set3_alloc {w : World} {o : Obj} {g i j k : Nat} {a b c : Value} (hg : g < w.heap.size) : (((w.alloc o).setCell ⟨g, i, none⟩ a).setCell ⟨g, j, none⟩ b).setCell ⟨g, k, none⟩ c =
    (((w.setCell ⟨g, i, none⟩ a).setCell ⟨g, j, none⟩ b).setCell ⟨g, k, none⟩ c).alloc o := by
  rw [World.setCell_alloc_past _ _ _ _ hg, World.setCell_alloc_past _ _ _ _ (by simpa [World.setCell] using hg), World.setCell_alloc_past _ _ _ _ (by simpa [World.setCell] using hg)]
theorem re_kind {w : World} {k k' : Int} {s : List (Int × Int)} {l : List RE} {sv lv : Value} (h : ReIs w (.mk k s l) sv lv) : ReIs w (.mk k' s l) sv lv := by
  cases h with
  | mk _ _ _ _ _ ps hs hl hn hk ih => exact .mk k' s l sv lv ps hs hl hn hk ih
theorem re_noset {w : World} {k : Int} {s : List (Int × Int)} {l : List RE} {sv lv : Value} (h : ReIs w (.mk k s l) sv lv) : ReIs w (.mk k [] l) (.slice none 0 0) lv := by
  cases h with
  | mk _ _ _ _ _ ps hs hl hn hk ih => exact .mk k [] l _ lv ps (Row.nil w) hl hn hk ih
theorem BX.star {w w2 : World} {n rn gx c9 : Nat} {u0 v0 u1 v1 u2 v2 : Value} {rest : List (TK × Value × Value)} {T : List TK} {R : List RU} {tv rv : Value} {wx : World} (h : BX w w2 n rn gx c9 ((tkA, u0, v0) :: (tkB, u1, v1) :: (tkO, u2, v2) :: rest) T R tv rv wx) :
    BK w w2.heap.size (.slice (some ⟨gx, 0, none⟩) n c9) (.int .i64 11) (.int .i64 1) ((((wx.setCell ⟨gx, 9, none⟩ (.int .i64 5)).setCell ⟨gx, 10, none⟩ (.slice none 0 0)).setCell ⟨gx, 11, none⟩ (.slice (some ⟨wx.heap.size, 0, none⟩) 1 1)).alloc (.cells #[.int .i64 2, u1, v1] 25)) := by
  have hgl := h.frozen.2
  rw [← set3_alloc hgl]
  have hb : Below wx.heap.size wx (wx.alloc (.cells #[.int .i64 2, u1, v1] 25)) := bel_new (Below.refl _ _) _
  have hk := (h.own.keep (tkB, u1, v1) (by simp)).to (.of hb)
  have hpl := h.len
  have hgx : (fun k => k ≠ w2.heap.size ∧ (Value.slice (some ⟨gx, 0, none⟩) n c9).ownBlock ≠ some k) wx.heap.size := ⟨by have := hp_lt h.hg; omega, fun e => by simp [Value.ownBlock] at e; omega⟩
  have hblk := KP.block (S := fun k => k ≠ w2.heap.size ∧ (Value.slice (some ⟨gx, 0, none⟩) n c9).ownBlock ≠ some k) (heap_alloc_new wx (.cells #[.int .i64 2, u1, v1] 25)) hgx
  have hst := kp_and hk hblk (fun w' a b => re_star a b)
  have a1 := fun {i : Nat} (q : Nat) (u : Value) => ((Ag.refl (fun k => k ≠ w2.heap.size ∧ (Value.slice (some ⟨gx, 0, none⟩) n c9).ownBlock ≠ some k) (wx.alloc (.cells #[.int .i64 2, u1, v1] 25))).setCell (p := ⟨gx, q, none⟩) (fun h => h.2 rfl) u)
  have t1 := tko_turn (i := 1) (j := 3) (p := (tkB, u1, v1)) (p' := ({ tkB with re := .mk 5 [(10, 10), (98, 98)] [] }, u1, v1)) (u := .int .i64 5) (h.own.moved hb) hpl rfl (by omega) rfl (hk.mono fun w' a => re_kind a)
  have hk2 := hk.to (a1 (i := 0) 9 (.int .i64 5))
  have t2 := tko_turn (i := 1) (j := 4) (p := ({ tkB with re := .mk 5 [(10, 10), (98, 98)] [] }, u1, v1)) (p' := ({ tkB with re := .mk 5 [] [] }, .slice none 0 0, v1)) (u := .slice none 0 0) t1 (by simpa using hpl) rfl (by omega) rfl (hk2.mono fun w' a => re_noset (re_kind a))
  have hs2 := (hst.to (a1 (i := 0) 9 (.int .i64 5))).to ((Ag.refl _ _).setCell (p := ⟨gx, 10, none⟩) (fun h => h.2 rfl) (.slice none 0 0))
  have t3 := tko_turn (i := 1) (j := 5) (p := ({ tkB with re := .mk 5 [] [] }, .slice none 0 0, v1)) (p' := ({ tkB with re := .mk 5 [] [tkB.re] }, .slice none 0 0, .slice (some ⟨wx.heap.size, 0, none⟩) 1 1)) (u := .slice (some ⟨wx.heap.size, 0, none⟩) 1 1) t2 (by simpa using hpl) rfl (by omega) rfl hs2
  have hg := h.gel
  have hge := h.ge
  refine h.fin (i := 1) (t := { tkB with re := .mk 5 [] [tkB.re] }) t3 ?_ (by rw [← h.toks]; rfl) ?_ ⟨show ({ tkB with re := .mk 5 [] [tkB.re] } : TK).name.size ≤ 1000 by decide, ?_⟩ (brk_3 h.mt R) (by decide)
  · exact ((((Ag.refl _ _).trans (.of hb)).setCell (fun h => h rfl) _).setCell (fun h => h rfl) _).setCell (fun h => h rfl) _
  · exact (((bel_then h.bel hb).setCell (Nat.le_trans hge hg) _).setCell (Nat.le_trans hge hg) _).setCell (Nat.le_trans hge hg) _
  · exact .mk 5 [] [tkB.re] (by unfold i32s; decide) (by decide) (by simp) (fun i e h => by
      match i, h with
      | 0, h => cases h; exact re_fit (by unfold i32s; decide) (by decide)
      | (n + 1), h => simp at h)
namespace RGoodF
theorem one {s : ST} (h1 : s.calls.length ≤ 1000) (h2 : s.p.Fit) : SFit [s] := fun i t h => by
  match i, h with
  | 0, h => cases h; exact ⟨h1, h2⟩
  | (n + 1), h => simp at h
theorem tok (nm : ByteArray) : (PT.mk 2 [nm] [] []).Fit := .mk 2 [nm] [] [] (by simp) (by decide) (by decide) (fun i p h => by simp at h)
end RGoodF
/-- g, with what it holds now -/
structure BG (w : World) (pg : Nat) (xv rv : Value) (T : List TK) (R : List RU) (wx : World) : Prop where
  hg : wx.heap[pg]? = some (.cells #[xv, rv] 35 (0, 0))
  tks : TksAre wx xv T
  rus : RusAre wx rv R
  bel : Below w.heap.size w wx
theorem BG.moved {w : World} {pg : Nat} {xv rv : Value} {T : List TK} {R : List RU} {wx wy : World} (h : BG w pg xv rv T R wx) (hb : Below wx.heap.size wx wy) : BG w pg xv rv T R wy := ⟨bel_get hb h.hg, h.tks.moved hb, h.rus.moved hb, bel_then h.bel hb⟩
theorem BG.cells {w : World} {pg : Nat} {xv rv : Value} {T : List TK} {R : List RU} {wx : World} (h : BG w pg xv rv T R wx) : wx.cell? ⟨pg, 0, none⟩ = some xv ∧ wx.cell? ⟨pg, 1, none⟩ = some rv := by
  have := h.hg
  exact ⟨by simp [World.cell?, this], by simp [World.cell?, this]⟩
end Go.Proofs.YtbanmggkfpnalaaGreatDoor
