/- gobolaw11.GramBreaks, over what Make gives. -/
import Derived.Test.YtkmnigoikkffnaaGBrk
import Derived.Test.YtkmnigoikkffnaaGMkE
import Derived.Test.YtkmnigoikkffnaaArgIntss
import Derived.Deep.CutBlock
set_option linter.unusedVariables false
set_option linter.unusedSimpArgs false
namespace Go.Proofs.Ytkmnigoikkffnaa
open Go.RowKit Ru

/-- what Make gives, whatever its numbers -/
def MakeOK : Prop := ∀ (L : List (List Int)) (vs : List Value) (lv : Value) (w : World), RowsI w lv vs L → (∀ l ∈ L, l.length ≤ 17592186044416) →
  Calls Try.prog 18 #[lv] w fun e w' => ∃ (T : List TK) (R : List RU) (tv rv : Value), e = .returned (.agg #[tv, rv]) ∧ TksAre w' tv T ∧ RusAre w' rv R ∧ MTok T ∧ (∀ r ∈ R, RGood T r) ∧ R.length ≤ 3 ∧ Below w.heap.size w w'
/-- a broken grammar in memory: its new tokens x apart from g, its rules in g; what its check tells -/
def BK (w : World) (pg : Nat) (xv s8 s9 : Value) (wx : World) : Prop := ∃ (code at_ : Int) (T' : List TK) (R' : List RU) (tv' rv' : Value), s8 = .int .i64 code ∧ s9 = .int .i64 at_ ∧
  wx.heap[pg]? = some (.cells #[tv', rv'] 25 (0, 0)) ∧ KP (fun k => k ≠ pg) wx (fun w' => TksAre w' xv T' ∧ RusAre w' rv' R') ∧ TFit T' ∧ RFit R' ∧ T'.length ≤ 1000 ∧ R'.length ≤ 1000 ∧ chkE T' R' = (code, at_) ∧ code ≠ 0 ∧ Below w.heap.size w wx
theorem flat_set {α : Type} (f : α → List Value) (W : Nat) (hW : ∀ a, (f a).length = W) : ∀ (l : List α) (i j : Nat) (p p' : α) (u : Value), l[i]? = some p → j < W → f p' = (f p).set j u → (l.set i p').flatMap f = (l.flatMap f).set (i * W + j) u := by
  intro l
  induction l with
  | nil => intro i j p p' u h; simp at h
  | cons a l ih =>
    intro i j p p' u h hj hf
    cases i with
    | zero =>
      simp at h; subst h
      have := hW a
      simp only [List.set_cons_zero, List.flatMap_cons, Nat.zero_mul, Nat.zero_add]
      rw [List.set_append_left _ _ (by omega), hf]
    | succ i =>
      simp only [List.set_cons_succ, List.flatMap_cons]
      have := hW a
      rw [ih i j p p' u (by simpa using h) hj hf, List.set_append_right _ _ (by rw [this, Nat.succ_mul]; omega)]
      congr 2
      rw [this, Nat.succ_mul]; omega
/-- one cell of a token turned -/
theorem tko_turn {X : Nat → Prop} {w : World} {B n c g i j : Nat} {ps : List (TK × Value × Value)} {p p' : TK × Value × Value} {u : Value} (h : TkO X w B (.slice (some ⟨g, 0, none⟩) n c) ps) (hn : ps.length = n) (hi : ps[i]? = some p) (hj : j < 6) (hf : six p' = (six p).set j u)
    (hp : KP (fun k => X k ∧ (Value.slice (some ⟨g, 0, none⟩) n c).ownBlock ≠ some k) w (fun w' => ReIs w' p'.1.re p'.2.1 p'.2.2)) : TkO X (w.setCell ⟨g, i * 6 + j, none⟩ u) B (.slice (some ⟨g, 0, none⟩) n c) (ps.set i p') := by
  have hag : Ag (fun k => X k ∧ (Value.slice (some ⟨g, 0, none⟩) n c).ownBlock ≠ some k) w (w.setCell ⟨g, i * 6 + j, none⟩ u) := (Ag.refl _ _).setCell (fun h => h.2 rfl) _
  refine ⟨?_, fun q hq => ?_⟩
  · have hr := h.row
    rw [hn] at hr
    have := owns_turn (j := i * 6 + j) u hr
    rw [List.length_set, hn, flat_set six 6 (fun _ => rfl) ps i j p p' u hi hj hf]
    exact this
  · rcases List.mem_or_eq_of_mem_set hq with h1 | h1
    · exact (h.keep q h1).to hag
    · subst h1; exact hp.to hag
theorem re_star {w : World} {b : Nat} {e : RE} {sv lv : Value} (he : ReIs w e sv lv) (hb : w.heap[b]? = some (.cells #[.int .i64 e.kind, sv, lv] 53 (0, 0))) : ReIs w (.mk 5 [] [e]) (.slice none 0 0) (.slice (some ⟨b, 0, none⟩) 1 1) := by
  refine .mk 5 [] _ _ _ [(e.kind, sv, lv)] (Row.nil w) (Row.owned (row_block (n := 1) (size := 3) hb rfl (by decide))) rfl ?_ ?_
  · intro i c q hc hq
    match i, hc, hq with
    | 0, hc, hq => cases hc; cases hq; rfl
    | (n + 1), hc, hq => simp at hc
  · intro i c q hc hq
    match i, hc, hq with
    | 0, hc, hq => cases hc; cases hq; exact he
    | (n + 1), hc, hq => simp at hc
theorem mtok_head {T : List TK} (h : MTok T) {ps : List (TK × Value × Value)} (e : ps.map (·.1) = T) : ∃ u0 v0 u1 v1 u2 v2 rest, ps = (tkA, u0, v0) :: (tkB, u1, v1) :: (tkO, u2, v2) :: rest := by
  have h3 : ∃ r, T = tkA :: tkB :: tkO :: r := by rcases h with rfl | rfl <;> exact ⟨_, rfl⟩
  obtain ⟨r, rfl⟩ := h3
  match ps, e with
  | (t0, u0, v0) :: (t1, u1, v1) :: (t2, u2, v2) :: rest, e =>
    simp only [List.map_cons, List.cons.injEq] at e
    obtain ⟨e0, e1, e2, -⟩ := e
    subst e0 e1 e2
    exact ⟨u0, v0, u1, v1, u2, v2, rest, rfl⟩
theorem tko_kp {w : World} {B pg : Nat} {v : Value} {ps : List (TK × Value × Value)} (h : TkO (fun k => k ≠ pg) w B v ps) (hv : v.ownBlock ≠ some pg) : KP (fun k => k ≠ pg) w (fun w' => TksAre w' v (ps.map (·.1))) :=
  fun w' h' => TkO.are (Own.ag h (h'.sub (fun k _ hk => by rcases hk with h1 | h1; exact h1; exact fun e => hv (e ▸ h1))))
theorem tfit_set {T : List TK} {i : Nat} {t : TK} (h : TFit T) (ht : t.name.size ≤ 1000 ∧ t.re.Fit) : TFit (T.set i t) := by
  rw [tfit_mem] at h ⊢
  intro x hx
  rcases List.mem_or_eq_of_mem_set hx with h1 | h1
  · exact h x h1
  · subst h1; exact ht
/-- ahead of the switch: x is a copy of g's tokens, apart -/
structure BX (w w2 : World) (n rn gx c9 : Nat) (pst : List (TK × Value × Value)) (T : List TK) (R : List RU) (tv rv : Value) (wx : World) : Prop where
  own : TkO (fun k => k ≠ w2.heap.size) wx w2.heap.size (.slice (some ⟨gx, 0, none⟩) n c9) pst
  len : pst.length = n
  toks : pst.map (·.1) = T
  hg : wx.heap[w2.heap.size]? = some (.cells #[tv, rv] 25 (0, 0))
  rus : KP (fun k => k ≠ w2.heap.size ∧ k ≠ gx) wx (fun w' => RusAre w' rv R)
  bel : Below w.heap.size w wx
  ne : gx ≠ w2.heap.size
  ge : w.heap.size ≤ w2.heap.size
  gel : w2.heap.size ≤ gx
  mt : MTok T
  rg : ∀ r ∈ R, RGood T r
  rl : R.length ≤ 3
theorem BX.cells {w w2 : World} {n rn gx c9 : Nat} {pst : List (TK × Value × Value)} {T : List TK} {R : List RU} {tv rv : Value} {wx : World} (h : BX w w2 n rn gx c9 pst T R tv rv wx) {i : Nat} {p : TK × Value × Value} (hp : pst[i]? = some p) :
    ∀ j, j < 6 → ∀ u, (six p)[j]? = some u → wx.cell? ⟨gx, i * 6 + j, none⟩ = some u := by
  intro j hj u hu
  have hr := h.own.row
  have hf := fm_get six 6 (fun _ => rfl) pst i j p hp hj
  have := hr.cells (g := gx) rfl (i * 6 + j) u (by rw [hf]; exact hu)
  have hadd : ∀ k : Nat, ((⟨gx, 0, none⟩ : Addr).add k) = ⟨gx, k, none⟩ := fun k => by unfold Addr.add; by_cases e : k = 0 <;> simp [e]
  rw [hadd] at this
  exact this
theorem BX.frozen {w w2 : World} {n rn gx c9 : Nat} {pst : List (TK × Value × Value)} {T : List TK} {R : List RU} {tv rv : Value} {wx : World} (h : BX w w2 n rn gx c9 pst T R tv rv wx) : (∀ j, wx.frozen? ⟨gx, j, none⟩ = false) ∧ gx < wx.heap.size := by
  rcases h.own.row.2 with ⟨h0, -⟩ | ⟨g, cap, cur, hv, hb, hg, -⟩
  · cases h0
  · cases hv
    exact ⟨fun j => by simp [World.frozen?, hg], hp_lt hg⟩
/-- one cell of x turned -/
theorem BX.turn {w w2 : World} {n rn gx c9 : Nat} {pst : List (TK × Value × Value)} {T : List TK} {R : List RU} {tv rv : Value} {wx : World} (h : BX w w2 n rn gx c9 pst T R tv rv wx) {i j : Nat} {p p' : TK × Value × Value} {u : Value} {code at_ : Int} (hi : pst[i]? = some p) (hj : j < 6) (hf : six p' = (six p).set j u)
    (hre : p'.1.re = p.1.re) (hu : p'.2 = p.2) (ht : p'.1.name.size ≤ 1000 ∧ p'.1.re.Fit) (hc : chkE (T.set i p'.1) R = (code, at_)) (hne : code ≠ 0) : BK w w2.heap.size (.slice (some ⟨gx, 0, none⟩) n c9) (.int .i64 code) (.int .i64 at_) (wx.setCell ⟨gx, i * 6 + j, none⟩ u) := by
  have hk := h.own.keep p (List.mem_of_getElem? hi)
  have ht1 := tko_turn (u := u) h.own h.len hi hj hf (hk.mono fun w' h' => by rw [hre, hu]; exact h')
  have hag : Ag (fun k => k ≠ w2.heap.size ∧ k ≠ gx) wx (wx.setCell ⟨gx, i * 6 + j, none⟩ u) := (Ag.refl _ _).setCell (fun h => h.2 rfl) _
  have hl := h.mt.len
  refine ⟨code, at_, T.set i p'.1, R, tv, rv, rfl, rfl, ?_, ?_, tfit_set h.mt.fit ht, RGood.fit h.rg, by simp; omega, by have := h.rl; omega, hc, hne, h.bel.setCell (Nat.le_trans h.ge h.gel) _⟩
  · rw [Below.heap_setCell _ _ _ _ (fun e => h.ne e.symm)]; exact h.hg
  · have h1 := tko_kp ht1 (by simp [Value.ownBlock]; exact h.ne)
    rw [List.map_set, h.toks] at h1
    exact kp_and h1 ((h.rus.to hag).sub (fun k hk hS => hS.1)) (fun w' a b => ⟨a, b⟩)
/-- x turned otherwise -/
theorem BX.fin {w w2 : World} {n rn gx c9 : Nat} {pst ps' : List (TK × Value × Value)} {T : List TK} {R : List RU} {tv rv : Value} {wx wz : World} (h : BX w w2 n rn gx c9 pst T R tv rv wx) {i : Nat} {t : TK} {code at_ : Int}
    (hown : TkO (fun k => k ≠ w2.heap.size) wz w2.heap.size (.slice (some ⟨gx, 0, none⟩) n c9) ps') (hag : Ag (fun k => k ≠ gx) wx wz) (hmap : ps'.map (·.1) = T.set i t) (hb : Below w.heap.size w wz)
    (ht : t.name.size ≤ 1000 ∧ t.re.Fit) (hc : chkE (T.set i t) R = (code, at_)) (hne : code ≠ 0) : BK w w2.heap.size (.slice (some ⟨gx, 0, none⟩) n c9) (.int .i64 code) (.int .i64 at_) wz := by
  have hl := h.mt.len
  refine ⟨code, at_, T.set i t, R, tv, rv, rfl, rfl, ?_, ?_, tfit_set h.mt.fit ht, RGood.fit h.rg, by simp; omega, by have := h.rl; omega, hc, hne, hb⟩
  · rw [hag.block _ (hp_lt h.hg) (fun e => h.ne e.symm)]; exact h.hg
  · have h1 := tko_kp hown (by simp [Value.ownBlock]; exact h.ne)
    rw [hmap] at h1
    exact kp_and h1 ((h.rus.to (hag.sub (fun k _ hS => hS.2))).sub (fun k hk hS => hS.1)) (fun w' a b => ⟨a, b⟩)
theorem set3_alloc {w : World} {o : Obj} {g i j k : Nat} {a b c : Value} (hg : g < w.heap.size) : (((w.alloc o).setCell ⟨g, i, none⟩ a).setCell ⟨g, j, none⟩ b).setCell ⟨g, k, none⟩ c =
    (((w.setCell ⟨g, i, none⟩ a).setCell ⟨g, j, none⟩ b).setCell ⟨g, k, none⟩ c).alloc o := by
  rw [World.setCell_alloc_past _ _ _ _ hg, World.setCell_alloc_past _ _ _ _ (by simpa [World.setCell] using hg), World.setCell_alloc_past _ _ _ _ (by simpa [World.setCell] using hg)]
theorem re_kind {w : World} {k k' : Int} {s : List (Int × Int)} {l : List RE} {sv lv : Value} (h : ReIs w (.mk k s l) sv lv) : ReIs w (.mk k' s l) sv lv := by
  cases h with
  | mk _ _ _ _ _ ps hs hl hn hk ih => exact .mk k' s l sv lv ps hs hl hn hk ih
theorem re_noset {w : World} {k : Int} {s : List (Int × Int)} {l : List RE} {sv lv : Value} (h : ReIs w (.mk k s l) sv lv) : ReIs w (.mk k [] l) (.slice none 0 0) lv := by
  cases h with
  | mk _ _ _ _ _ ps hs hl hn hk ih => exact .mk k [] l _ lv ps (Row.nil w) hl hn hk ih
theorem BX.star {w w2 : World} {n rn gx c9 : Nat} {u0 v0 u1 v1 u2 v2 : Value} {rest : List (TK × Value × Value)} {T : List TK} {R : List RU} {tv rv : Value} {wx : World} (h : BX w w2 n rn gx c9 ((tkA, u0, v0) :: (tkB, u1, v1) :: (tkO, u2, v2) :: rest) T R tv rv wx) :
    BK w w2.heap.size (.slice (some ⟨gx, 0, none⟩) n c9) (.int .i64 11) (.int .i64 1) ((((wx.setCell ⟨gx, 9, none⟩ (.int .i64 5)).setCell ⟨gx, 10, none⟩ (.slice none 0 0)).setCell ⟨gx, 11, none⟩ (.slice (some ⟨wx.heap.size, 0, none⟩) 1 1)).alloc (.cells #[.int .i64 2, u1, v1] 53)) := by
  have hgl := h.frozen.2
  rw [← set3_alloc hgl]
  have hb : Below wx.heap.size wx (wx.alloc (.cells #[.int .i64 2, u1, v1] 53)) := bel_new (Below.refl _ _) _
  have hk := (h.own.keep (tkB, u1, v1) (by simp)).to (.of hb)
  have hpl := h.len
  have hgx : (fun k => k ≠ w2.heap.size ∧ (Value.slice (some ⟨gx, 0, none⟩) n c9).ownBlock ≠ some k) wx.heap.size := ⟨by have := hp_lt h.hg; omega, fun e => by simp [Value.ownBlock] at e; omega⟩
  have hblk := KP.block (S := fun k => k ≠ w2.heap.size ∧ (Value.slice (some ⟨gx, 0, none⟩) n c9).ownBlock ≠ some k) (heap_alloc_new wx (.cells #[.int .i64 2, u1, v1] 53)) hgx
  have hst := kp_and hk hblk (fun w' a b => re_star a b)
  have a1 := fun {i : Nat} (q : Nat) (u : Value) => ((Ag.refl (fun k => k ≠ w2.heap.size ∧ (Value.slice (some ⟨gx, 0, none⟩) n c9).ownBlock ≠ some k) (wx.alloc (.cells #[.int .i64 2, u1, v1] 53))).setCell (p := ⟨gx, q, none⟩) (fun h => h.2 rfl) u)
  have t1 := tko_turn (i := 1) (j := 3) (p := (tkB, u1, v1)) (p' := ({ tkB with re := .mk 5 [(10, 10), (98, 98)] [] }, u1, v1)) (u := .int .i64 5) (h.own.moved hb) hpl rfl (by omega) rfl (hk.mono fun w' a => re_kind a)
  have hk2 := hk.to (a1 (i := 0) 9 (.int .i64 5))
  have t2 := tko_turn (i := 1) (j := 4) (p := ({ tkB with re := .mk 5 [(10, 10), (98, 98)] [] }, u1, v1)) (p' := ({ tkB with re := .mk 5 [] [] }, .slice none 0 0, v1)) (u := .slice none 0 0) t1 (by simpa using hpl) rfl (by omega) rfl (hk2.mono fun w' a => re_noset (re_kind a))
  have hs2 := (hst.to (a1 (i := 0) 9 (.int .i64 5))).to ((Ag.refl _ _).setCell (p := ⟨gx, 10, none⟩) (fun h => h.2 rfl) (.slice none 0 0))
  have t3 := tko_turn (i := 1) (j := 5) (p := ({ tkB with re := .mk 5 [] [] }, .slice none 0 0, v1)) (p' := ({ tkB with re := .mk 5 [] [tkB.re] }, .slice none 0 0, .slice (some ⟨wx.heap.size, 0, none⟩) 1 1)) (u := .slice (some ⟨wx.heap.size, 0, none⟩) 1 1) t2 (by simpa using hpl) rfl (by omega) rfl hs2
  have hg := h.gel
  have hge := h.ge
  refine h.fin (i := 1) (t := { tkB with re := .mk 5 [] [tkB.re] }) t3 ?_ (by rw [← h.toks]; rfl) ?_ ⟨show ({ tkB with re := .mk 5 [] [tkB.re] } : TK).name.size ≤ 1000 by decide, ?_⟩ (brk_3 h.mt R) (by decide)
  · exact ((((Ag.refl _ _).trans (.of hb)).setCell (fun h => h rfl) _).setCell (fun h => h rfl) _).setCell (fun h => h rfl) _
  · exact (((bel_then h.bel hb).setCell (Nat.le_trans hge hg) _).setCell (Nat.le_trans hge hg) _).setCell (Nat.le_trans hge hg) _
  · exact .mk 5 [] [tkB.re] (by unfold i32s; decide) (by decide) (by simp) (fun i e h => by
      match i, h with
      | 0, h => cases h; exact re_fit (by unfold i32s; decide) (by decide)
      | (n + 1), h => simp at h)
theorem own_new {w : World} {e : TypeId} {g size B : Nat} {cs : Array Value} (hs : cs.size = size) (hg : g = w.heap.size) (hB : B ≤ g) : (w.alloc (.cells cs e)).ownsRow B e size (.slice (some ⟨g, 0, none⟩) 1 1) 1 cs.toList := by
  subst hg; exact owns_base (row_block (n := 1) (size := size) (heap_alloc_new w _) (by simpa using hs) (by decide)) hB
theorem threes_len : ∀ (l : List (RU × Value)), (l.flatMap three).length = l.length * 3 := by
  intro l
  induction l with
  | nil => rfl
  | cons a l ih => simp [List.flatMap_cons, three, ih] at *; omega
theorem sixes_len : ∀ (l : List (TK × Value × Value)), (l.flatMap six).length = l.length * 6 := by
  intro l
  induction l with
  | nil => rfl
  | cons a l ih => simp [List.flatMap_cons, six, ih] at *; omega
theorem threes_one {w : World} {l : List (RU × Value)} (h : ∀ p ∈ l, StsAre w p.2 p.1.steps) : ∀ u ∈ l.flatMap three, u.oneCell' = true := by
  intro u hu
  obtain ⟨p, hp, hu⟩ := List.mem_flatMap.1 hu
  obtain ⟨o, c, e⟩ := (h p hp).form
  simp only [three, List.mem_cons, List.not_mem_nil, or_false] at hu
  rcases hu with rfl | rfl | rfl
  · rfl
  · rfl
  · rw [e]; rfl
theorem sixes_one {w : World} {l : List (TK × Value × Value)} (h : ∀ p ∈ l, ReIs w p.1.re p.2.1 p.2.2) : ∀ u ∈ l.flatMap six, u.oneCell' = true := by
  intro u hu
  obtain ⟨p, hp, hu⟩ := List.mem_flatMap.1 hu
  obtain ⟨⟨o, c, e⟩, ⟨o2, c2, e2⟩⟩ := (h p hp).form
  simp only [six, List.mem_cons, List.not_mem_nil, or_false] at hu
  rcases hu with rfl | rfl | rfl | rfl | rfl | rfl
  · rfl
  · rfl
  · rfl
  · rfl
  · rw [e]; rfl
  · rw [e2]; rfl
theorem sts_tok {w : World} {st cl : Nat} {nm : ByteArray} (hs : w.heap[st]? = some (.cells #[.slice none 0 0, .int .i64 2, .slice (some ⟨cl, 0, none⟩) 1 1, .slice none 0 0, .slice none 0 0] 45 (0, 0))) (hc : w.heap[cl]? = some (.cells #[.string nm] 9 (0, 0))) :
    StsAre w (.slice (some ⟨st, 0, none⟩) 1 1) [⟨[], .mk 2 [nm] [] []⟩] := by
  refine ⟨[(⟨[], .mk 2 [nm] [] []⟩, .slice none 0 0, .slice (some ⟨cl, 0, none⟩) 1 1, .slice none 0 0, .slice none 0 0)], rfl, Row.owned (row_block (n := 1) (size := 5) hs rfl (by decide)), ?_⟩
  intro i p hp
  match i, hp with
  | 0, hp => cases hp; exact ⟨Row.nil w, pt_tok (ns := [nm]) (Row.owned (row_block (n := 1) (size := 1) hc rfl (by decide)))⟩
  | (n + 1), hp => simp at hp
theorem sts_well {w : World} {st : Nat} (hs : w.heap[st]? = some (.cells #[.slice none 0 0, .int .i64 4, .slice none 0 0, .slice none 0 0, .slice none 0 0] 45 (0, 0))) : StsAre w (.slice (some ⟨st, 0, none⟩) 1 1) [⟨[], .mk 4 [] [] []⟩] := by
  refine ⟨[(⟨[], .mk 4 [] [] []⟩, .slice none 0 0, .slice none 0 0, .slice none 0 0, .slice none 0 0)], rfl, Row.owned (row_block (n := 1) (size := 5) hs rfl (by decide)), ?_⟩
  intro i p hp
  match i, hp with
  | 0, hp => cases hp; exact ⟨Row.nil w, pt_kind 4 w⟩
  | (n + 1), hp => simp at hp
theorem sts_nil (w : World) : StsAre w (.slice none 0 0) [] := ⟨[], rfl, Row.nil w, fun i p h => by simp at h⟩
/-- g's rules, each apart from g -/
structure BR (w2 : World) (rn : Nat) (rv : Value) (psr : List (RU × Value)) (R : List RU) (wx : World) : Prop where
  row : Row wx rv rn (psr.flatMap three)
  el : ∀ p ∈ psr, KP (fun k => k ≠ w2.heap.size) wx (fun w' => StsAre w' p.2 p.1.steps)
  map : psr.map (·.1) = R
  len : psr.length = rn
theorem BX.rule {w w2 X w10 : World} {n rn gx c9 c : Nat} {o : Option Addr} {pst : List (TK × Value × Value)} {psr : List (RU × Value)} {T : List TK} {R : List RU} {tv rv sv0 : Value} {wx : World} {r0 : RU} {xs : List Value} {code at_ : Int} (h : BX w w2 n rn gx c9 pst T R tv rv wx) (hr : BR w2 rn rv psr R wx)
    (hX : Below wx.heap.size wx X) (hb10 : Below wx.heap.size X w10) (hown : w10.ownsRow wx.heap.size 38 3 (.slice o (1 + rn) c) (1 + rn) (xs ++ psr.flatMap three)) (hxs : xs = three (r0, sv0))
    (h0 : KP (fun k => k ≠ w2.heap.size) w10 (fun w' => StsAre w' sv0 r0.steps)) (hf : r0.steps.length ≤ 1000 ∧ SFit r0.steps) (hc : chkE T (r0 :: R) = (code, at_)) (hne : code ≠ 0) :
    BK w w2.heap.size (.slice (some ⟨gx, 0, none⟩) n c9) (.int .i64 code) (.int .i64 at_) (w10.setCell ⟨w2.heap.size, 1, none⟩ (.slice o (1 + rn) c)) := by
  subst hxs
  have hb : Below wx.heap.size wx w10 := hX.trans hb10
  have hg := bel_get hb h.hg
  have hl := h.mt.len
  have hlt := hp_lt h.hg
  have hrl := h.rl
  have hag : Ag (fun k => k ≠ w2.heap.size) w10 (w10.setCell ⟨w2.heap.size, 1, none⟩ (.slice o (1 + rn) c)) := (Ag.refl _ _).setCell (fun h => h rfl) _
  have hN : (Value.slice o (1 + rn) c).ownBlock ≠ some w2.heap.size := fun e => by have := (hown.lt _ e).1; omega
  have hlen : (r0 :: R).length = 1 + rn := by rw [← hr.len, ← hr.map]; simp; omega
  refine ⟨code, at_, T, r0 :: R, tv, .slice o (1 + rn) c, rfl, rfl, by simp [World.setCell, Array.getElem?_modify, hg], ?_, h.mt.fit, ?_, by omega, by rw [hlen]; have := hr.len; rw [← hr.map] at hrl; simp at hrl; omega, hc, hne, (bel_then h.bel hb).setCell h.ge _⟩
  · refine kp_and ((tko_kp (h.own.moved hb) (by simp [Value.ownBlock]; exact h.ne)).to hag) (KP.to (F := fun w' => RusAre w' (.slice o (1 + rn) c) (r0 :: R)) ?_ hag) (fun w' a b => ⟨by rw [h.toks] at a; exact a, b⟩)
    intro w' h'
    refine ⟨(r0, sv0) :: psr, by simp [hr.map], ?_, fun i p hp => ?_⟩
    · rw [hlen]
      have := Row.owned (owns_ag hown h' (fun j hj e => hN (by rw [hj, e])))
      simpa using this
    · cases i with
      | zero => simp at hp; subst hp; exact h0 w' h'
      | succ i => exact ((hr.el p (List.mem_of_getElem? (by simpa using hp))).to (.of hb)) w' h'
  · intro i r hi
    cases i with
    | zero => simp at hi; subst hi; exact hf
    | succ i => exact RGood.fit h.rg i r (by simpa using hi)
namespace RGoodF
theorem one {s : ST} (h1 : s.calls.length ≤ 1000) (h2 : s.p.Fit) : SFit [s] := fun i t h => by
  match i, h with
  | 0, h => cases h; exact ⟨h1, h2⟩
  | (n + 1), h => simp at h
theorem tok (nm : ByteArray) : (PT.mk 2 [nm] [] []).Fit := .mk 2 [nm] [] [] (by simp) (by decide) (by decide) (fun i p h => by simp at h)
theorem ru4 : ru4.steps.length ≤ 1000 ∧ SFit ru4.steps := ⟨by decide, one (by decide) (tok _)⟩
theorem ru5 : ru5.steps.length ≤ 1000 ∧ SFit ru5.steps := ⟨by decide, one (by decide) (tok _)⟩
theorem ru6 : ru6.steps.length ≤ 1000 ∧ SFit ru6.steps := ⟨by decide, one (by decide) well_fit⟩
theorem ru7 : ru7.steps.length ≤ 1000 ∧ SFit ru7.steps := ⟨by decide, fun i s h => by simp [Go.Proofs.Ytkmnigoikkffnaa.ru7] at h⟩
end RGoodF
/-- g, with what it holds now -/
structure BG (w : World) (pg : Nat) (xv rv : Value) (T : List TK) (R : List RU) (wx : World) : Prop where
  hg : wx.heap[pg]? = some (.cells #[xv, rv] 25 (0, 0))
  tks : TksAre wx xv T
  rus : RusAre wx rv R
  bel : Below w.heap.size w wx
theorem BG.moved {w : World} {pg : Nat} {xv rv : Value} {T : List TK} {R : List RU} {wx wy : World} (h : BG w pg xv rv T R wx) (hb : Below wx.heap.size wx wy) : BG w pg xv rv T R wy := ⟨bel_get hb h.hg, h.tks.moved hb, h.rus.moved hb, bel_then h.bel hb⟩
theorem BG.cells {w : World} {pg : Nat} {xv rv : Value} {T : List TK} {R : List RU} {wx : World} (h : BG w pg xv rv T R wx) : wx.cell? ⟨pg, 0, none⟩ = some xv ∧ wx.cell? ⟨pg, 1, none⟩ = some rv := by
  have := h.hg
  exact ⟨by simp [World.cell?, this], by simp [World.cell?, this]⟩
set_option maxHeartbeats 8000000 in
set_option maxRecDepth 100000 in
theorem gramBreaks_walk (hM : MakeOK) (L : List (List Int)) (vs : List Value) (lv : Value) (b : Int) (w : World) (hL : RowsI w lv vs L) (hB : ∀ l ∈ L, l.length ≤ 17592186044416) :
    Calls Try.prog 5 #[lv, .int .i64 b] w fun e w' => e = .returned (.bool true) ∧ Below w.heap.size w w' := by
  obtain ⟨ii, hi, hz0, hz1, hz2⟩ := infoToken
  obtain ⟨ir, hr0, hr1, hr2, hr3⟩ := infoRule
  obtain ⟨m, hm, em⟩ := u64_mod' b 8 (by omega) (by omega)
  have em1 : (IntKind.u64.wrap b).tmod 8 = (m : Int) := em
  have em2 : IntKind.i64.wrap (m : Int) = (m : Int) := IntWalk.i64_in _ (by omega)
  clear em
  go_enter Try.func5, Try.ntmps5
  go_wp2_with fail
  refine (hM L vs lv w hL hB).mono ?_
  rintro e w2 ⟨T, R, tv, rv, rfl, hT, hR, hTm, hRg, hRl, hb2⟩
  obtain ⟨n, hn⟩ : ∃ n, n = T.length := ⟨_, rfl⟩
  have hnl := hTm.len
  have hn4 : 4 ≤ n ∧ n ≤ 6 := by omega
  obtain ⟨pst, e1, hTrow, hTel⟩ := hT
  obtain ⟨ot, ct, rfl, -⟩ := id hTrow
  rw [← hn] at hTrow ⊢
  obtain ⟨psr, e2, hRrow, hRel⟩ := hR
  obtain ⟨orr, cr, rfl, -⟩ := id hRrow
  obtain ⟨rn, hrn⟩ : ∃ rn, rn = R.length := ⟨_, rfl⟩
  rw [← hrn] at hRrow hRl ⊢
  have H := Lib.hid (And.intro e1 (And.intro hTrow (And.intro hTel (And.intro e2 (And.intro hRrow (And.intro hRel (And.intro hTm (And.intro hRg (And.intro hRl hb2)))))))))
  have HN := Lib.hid (And.intro hn hrn)
  clear e1 hTrow hTel e2 hRrow hRel hTm hRg hRl hb2 hn hrn hnl
  go_upto_block 0 with (
    at_builtin; refine wpList_append_far _ rfl _ _ 22 rfl w2.heap.size 55 ii _ 6 88 Try.underlying22 hi hz0 hz1 hz2 rfl (by decide) _ 0 [] rfl (by first | exact own0 (by simp) (by simp) | exact own0 (by simp) (by simp; omega)) _ n (pst.flatMap six) rfl ((H.out.2.1).below (by repeat (first | exact Below.refl _ _ | refine Below.drew ?_ | refine bel_new ?_ _))) (by rw [sixes_len, show pst.length = n by rw [HN.out.1, ← H.out.1]; simp]) (sixes_one (fun p hp => by obtain ⟨i, hi⟩ := List.mem_iff_getElem?.1 hp; exact H.out.2.2.1 i p hi)) (by unfold maxLen; omega) (by omega) (by simp <;> omega) ?_; intro v9 w9 hown9 hg9 hf9 hb9; rw [List.nil_append] at hown9; obtain ⟨o9, c9, rfl⟩ := owns_slice hown9)
  go_cut [8, 9] (fun s8 s9 wx => BK w w2.heap.size (.slice o9 n c9) s8 s9 wx)
  case first =>
    rw [Nat.zero_add] at hown9
    obtain ⟨gx, rfl⟩ : ∃ gx, o9 = some ⟨gx, 0, none⟩ := by
      rcases hown9.2 with ⟨-, h0⟩ | ⟨g, cap, cur, hv, -⟩
      · omega
      · cases hv; exact ⟨g, rfl⟩
    have hgx := hown9.lt gx rfl
    obtain ⟨X, hX⟩ : ∃ X, X = (w2.alloc (.cells #[.slice ot n ct, .slice orr rn cr] 25)).alloc (.cells #[] 55) := ⟨_, rfl⟩
    have hg9' : X.grownBy w9 (some (w2.heap.size + 1)) := by rw [hX]; exact hg9
    have hpg9 : w9.heap[w2.heap.size]? = some (.cells #[.slice ot n ct, .slice orr rn cr] 25 (0, 0)) := by
      rw [hg9'.block _ (by rw [hX]; simp; omega) (by simp), hX, Below.heap_alloc _ _ _ (by simp)]
      exact heap_alloc_new w2 _
    have hne : gx ≠ w2.heap.size := fun e => by
      rcases hown9.2 with ⟨h0, -⟩ | ⟨g, cap, cur, hv, hb, hg, -⟩
      · cases h0
      · cases hv
        rw [e, hpg9] at hg
        cases hg
    have h29 : Below w2.heap.size w2 w9 := Below.trans (by repeat (first | exact Below.refl _ _ | refine Below.drew ?_ | refine bel_new ?_ _)) hb9
    have hBX : BX w w2 n rn gx c9 pst T R (.slice ot n ct) (.slice orr rn cr) w9 := by
      obtain ⟨k1, k2, k3, k4, k5, k6, k7, k8, k9, k10⟩ := H.out
      have hpl : pst.length = n := by have := HN.out.1; rw [this, ← k1]; simp
      refine ⟨⟨by rw [hpl]; exact hown9, fun p hp => ?_⟩, hpl, k1, hpg9, ?_, bel_then k10 h29, hne, k10.size, hgx.1, k7, k8, by have := HN.out.2; omega⟩
      · obtain ⟨i, hi⟩ := List.mem_iff_getElem?.1 hp
        exact KP.old h29 (fun w' hb => (k3 i p hi).moved hb) (fun k hk => ⟨by omega, fun e => by simp [Value.ownBlock] at e; omega⟩)
      · exact KP.old h29 (fun w' hb => RusAre.moved ⟨psr, k4, by have := HN.out.2; rw [← this]; exact k5, k6⟩ hb) (fun k hk => ⟨by omega, by omega⟩)
    have hBR : BR w2 rn (.slice orr rn cr) psr R w9 := by
      obtain ⟨k1, k2, k3, k4, k5, k6, k7, k8, k9, k10⟩ := H.out
      refine ⟨k5.below h29, fun p hp => ?_, k4, by rw [HN.out.2, ← k4]; simp⟩
      obtain ⟨i, hi⟩ := List.mem_iff_getElem?.1 hp
      exact KP.old h29 (fun w' hb => (k6 i p hi).moved hb) (fun k hk => by omega)
    have HBR := Lib.hid hBR
    have g1 : w9.cell? ⟨w2.heap.size, 1, none⟩ = some (.slice orr rn cr) := by simp [World.cell?, hpg9]
    have hpl9 := hp_lt hpg9
    have hrn3 : rn ≤ 3 := by rw [HN.out.2]; exact hBX.rl
    clear hBR
    clear hg9' hX hg9 hf9 hb9 hown9 h29
    obtain ⟨u0, v0, u1, v1, u2, v2, rest, rfl⟩ := mtok_head hBX.mt hBX.toks
    have hcl := fun (i : Nat) (p : TK × Value × Value) (hp : ((tkA, u0, v0) :: (tkB, u1, v1) :: (tkO, u2, v2) :: rest)[i]? = some p) => hBX.cells hp
    have hfz := hBX.frozen
    have HBX := Lib.hid hBX
    have q0 := hcl 0 _ rfl 0 (by omega) _ rfl
    have f6 := hfz.1 6
    have f13 := hfz.1 13
    have f2 := hfz.1 2
    have hn1 : (1 : Int) < (n : Int) := by omega
    have hn2 : (2 : Int) < (n : Int) := by omega
    have hn0 : (0 : Int) < (n : Int) := by omega
    have c1 := hcl 1 _ rfl 0 (by omega) _ rfl
    have c2 := hcl 2 _ rfl 1 (by omega) _ rfl
    have c3 := hcl 0 _ rfl 2 (by omega) _ rfl
    simp only [Nat.zero_mul, Nat.zero_add, Nat.one_mul, Nat.add_zero, Nat.reduceMul, Nat.reduceAdd] at q0 c1 c2 c3
    clear hBX hcl
    obtain rfl | rfl | rfl | rfl | rfl | rfl | rfl | rfl : m = 0 ∨ m = 1 ∨ m = 2 ∨ m = 3 ∨ m = 4 ∨ m = 5 ∨ m = 6 ∨ m = 7 := by omega
    · go_wp2_with fail
      go_meet
      exact HBX.out.turn (i := 1) (j := 0) (p := (tkB, u1, v1)) (p' := ({ tkB with name := nmA }, u1, v1)) rfl (by omega) rfl rfl rfl ⟨show ({ tkB with name := nmA } : TK).name.size ≤ 1000 by decide, re_fit (by unfold i32s; decide) (by decide)⟩ (brk_0 HBX.out.mt R) (by decide)
    · go_wp2_with fail
      go_meet
      exact HBX.out.turn (i := 2) (j := 1) (p := (tkO, u2, v2)) (p' := ({ tkO with kind := 3 }, u2, v2)) rfl (by omega) rfl rfl rfl ⟨show ({ tkO with kind := 3 } : TK).name.size ≤ 1000 by decide, re_fit (by unfold i32s; decide) (by decide)⟩ (brk_1 HBX.out.mt R) (by decide)
    · go_wp2_with fail
      go_meet
      exact HBX.out.turn (i := 0) (j := 2) (p := (tkA, u0, v0)) (p' := ({ tkA with cls := 32 }, u0, v0)) rfl (by omega) rfl rfl rfl ⟨show ({ tkA with cls := 32 } : TK).name.size ≤ 1000 by decide, re_fit (by unfold i32s; decide) (by decide)⟩ (brk_2 HBX.out.mt R) (by decide)
    · have f9 := hfz.1 9
      have f10 := hfz.1 10
      have f11 := hfz.1 11
      have hgl := hfz.2
      have hgn : ¬ gx = w9.heap.size := by omega
      have c9' := HBX.out.cells (i := 1) (p := (tkB, u1, v1)) rfl 3 (by omega) _ rfl
      have c10 := HBX.out.cells (i := 1) (p := (tkB, u1, v1)) rfl 4 (by omega) _ rfl
      have c11 := HBX.out.cells (i := 1) (p := (tkB, u1, v1)) rfl 5 (by omega) _ rfl
      simp only [Nat.one_mul, Nat.reduceMul, Nat.reduceAdd] at c9' c10 c11
      go_wp2_with fail
      go_meet
      exact HBX.out.star
    · have n0 : ¬ w2.heap.size = w9.heap.size := by omega
      have n1 : w2.heap.size < w9.heap.size + 1 := by omega
      have n2 : w2.heap.size < w9.heap.size + 1 + 1 := by omega
      have n3 : ¬ w2.heap.size = w9.heap.size + 1 := by omega
      have n4 : ¬ w2.heap.size = w9.heap.size + 1 + 1 := by omega
      go_wp2_with (
        at_builtin; refine wpList_append_far _ rfl _ _ 23 rfl w9.heap.size 38 ir _ 3 40 Try.underlying23 hr0 hr1 hr2 hr3 rfl (by decide) _ 1 [.int .i64 0, .bool false, .slice (some ⟨w9.heap.size + 1, 0, none⟩) 1 1] rfl (by exact own_new (g := w9.heap.size + 1 + 1) rfl (by simp) (by first | omega | simp)) _ rn (psr.flatMap three) rfl (HBR.out.row.below (by repeat (first | exact Below.refl _ _ | refine Below.drew ?_ | refine bel_new ?_ _))) (by rw [threes_len, HBR.out.len]) (threes_one (fun p hp => (HBR.out.el p hp).here)) (by unfold maxLen; omega) (by omega) (by simp <;> omega) ?_; intro v10 w10 hown10 hg10 hf10 hb10; obtain ⟨o10, c10, rfl⟩ := owns_slice hown10
        have hB10 : Below w9.heap.size w9 w10 := Below.trans (by repeat (first | exact Below.refl _ _ | refine Below.drew ?_ | refine bel_new ?_ _)) hb10
        have hp10 := bel_get hB10 HBX.out.hg
        have z0 : w10.cell? ⟨w2.heap.size, 1, none⟩ = some (.slice orr rn cr) := by simp [World.cell?, hp10]
        have z1 : w10.frozen? ⟨w2.heap.size, 1, none⟩ = false := by simp [World.frozen?, hp10])
      go_meet
      have hg' : ((((w9.alloc (.cells #[.string nmNobody] 9)).alloc (.cells #[.slice none 0 0, .int .i64 2, .slice (some ⟨w9.heap.size, 0, none⟩) 1 1, .slice none 0 0, .slice none 0 0] 45)).alloc (.cells #[.int .i64 0, .bool false, .slice (some ⟨w9.heap.size + 1, 0, none⟩) 1 1] 38))).grownBy w10 (some (w9.heap.size + 1 + 1)) := hg10
      have hal := allocs_heap [.cells #[.string nmNobody] 9, .cells #[.slice none 0 0, .int .i64 2, .slice (some ⟨w9.heap.size, 0, none⟩) 1 1, .slice none 0 0, .slice none 0 0] 45, .cells #[.int .i64 0, .bool false, .slice (some ⟨w9.heap.size + 1, 0, none⟩) 1 1] 38] w9
      exact HBX.out.rule (r0 := ru4) (X := (((w9.alloc (.cells #[.string nmNobody] 9)).alloc (.cells #[.slice none 0 0, .int .i64 2, .slice (some ⟨w9.heap.size, 0, none⟩) 1 1, .slice none 0 0, .slice none 0 0] 45)).alloc (.cells #[.int .i64 0, .bool false, .slice (some ⟨w9.heap.size + 1, 0, none⟩) 1 1] 38))) HBR.out (by repeat (first | exact Below.refl _ _ | refine Below.drew ?_ | refine bel_new ?_ _)) hb10 hown10 rfl (kp_two (a := w9.heap.size + 1) (b := w9.heap.size) (by rw [hg'.block _ (by first | (simp; done) | (simp; omega) | omega) (by first | (simp; done) | (simp; omega) | omega)]; exact hal 1 (by simp)) (by rw [hg'.block _ (by first | (simp; done) | (simp; omega) | omega) (by first | (simp; done) | (simp; omega) | omega)]; exact hal 0 (by simp)) (by omega) (by omega) (fun w' => sts_tok)) (RGoodF.ru4) (by rw [brk_4 HBX.out.mt HBX.out.rl, HN.out.1]) (by decide)
    · have n0 : ¬ w2.heap.size = w9.heap.size := by omega
      have n1 : w2.heap.size < w9.heap.size + 1 := by omega
      have n2 : w2.heap.size < w9.heap.size + 1 + 1 := by omega
      have n3 : ¬ w2.heap.size = w9.heap.size + 1 := by omega
      have n4 : ¬ w2.heap.size = w9.heap.size + 1 + 1 := by omega
      go_wp2_with (
        at_builtin; refine wpList_append_far _ rfl _ _ 23 rfl w9.heap.size 38 ir _ 3 40 Try.underlying23 hr0 hr1 hr2 hr3 rfl (by decide) _ 1 [.int .i64 0, .bool false, .slice (some ⟨w9.heap.size + 1, 0, none⟩) 1 1] rfl (by exact own_new (g := w9.heap.size + 1 + 1) rfl (by simp) (by first | omega | simp)) _ rn (psr.flatMap three) rfl (HBR.out.row.below (by repeat (first | exact Below.refl _ _ | refine Below.drew ?_ | refine bel_new ?_ _))) (by rw [threes_len, HBR.out.len]) (threes_one (fun p hp => (HBR.out.el p hp).here)) (by unfold maxLen; omega) (by omega) (by simp <;> omega) ?_; intro v10 w10 hown10 hg10 hf10 hb10; obtain ⟨o10, c10, rfl⟩ := owns_slice hown10
        have hB10 : Below w9.heap.size w9 w10 := Below.trans (by repeat (first | exact Below.refl _ _ | refine Below.drew ?_ | refine bel_new ?_ _)) hb10
        have hp10 := bel_get hB10 HBX.out.hg
        have z0 : w10.cell? ⟨w2.heap.size, 1, none⟩ = some (.slice orr rn cr) := by simp [World.cell?, hp10]
        have z1 : w10.frozen? ⟨w2.heap.size, 1, none⟩ = false := by simp [World.frozen?, hp10])
      go_meet
      have hg' : ((((w9.alloc (.cells #[.string nmO] 9)).alloc (.cells #[.slice none 0 0, .int .i64 2, .slice (some ⟨w9.heap.size, 0, none⟩) 1 1, .slice none 0 0, .slice none 0 0] 45)).alloc (.cells #[.int .i64 0, .bool false, .slice (some ⟨w9.heap.size + 1, 0, none⟩) 1 1] 38))).grownBy w10 (some (w9.heap.size + 1 + 1)) := hg10
      have hal := allocs_heap [.cells #[.string nmO] 9, .cells #[.slice none 0 0, .int .i64 2, .slice (some ⟨w9.heap.size, 0, none⟩) 1 1, .slice none 0 0, .slice none 0 0] 45, .cells #[.int .i64 0, .bool false, .slice (some ⟨w9.heap.size + 1, 0, none⟩) 1 1] 38] w9
      exact HBX.out.rule (r0 := ru5) (X := (((w9.alloc (.cells #[.string nmO] 9)).alloc (.cells #[.slice none 0 0, .int .i64 2, .slice (some ⟨w9.heap.size, 0, none⟩) 1 1, .slice none 0 0, .slice none 0 0] 45)).alloc (.cells #[.int .i64 0, .bool false, .slice (some ⟨w9.heap.size + 1, 0, none⟩) 1 1] 38))) HBR.out (by repeat (first | exact Below.refl _ _ | refine Below.drew ?_ | refine bel_new ?_ _)) hb10 hown10 rfl (kp_two (a := w9.heap.size + 1) (b := w9.heap.size) (by rw [hg'.block _ (by first | (simp; done) | (simp; omega) | omega) (by first | (simp; done) | (simp; omega) | omega)]; exact hal 1 (by simp)) (by rw [hg'.block _ (by first | (simp; done) | (simp; omega) | omega) (by first | (simp; done) | (simp; omega) | omega)]; exact hal 0 (by simp)) (by omega) (by omega) (fun w' => sts_tok)) (RGoodF.ru5) (by rw [brk_5 HBX.out.mt HBX.out.rl, HN.out.1]) (by decide)
    · have n0 : ¬ w2.heap.size = w9.heap.size := by omega
      have n1 : w2.heap.size < w9.heap.size + 1 := by omega
      have n2 : w2.heap.size < w9.heap.size + 1 + 1 := by omega
      have n3 : ¬ w2.heap.size = w9.heap.size + 1 := by omega
      have n4 : ¬ w2.heap.size = w9.heap.size + 1 + 1 := by omega
      go_wp2_with (
        at_builtin; refine wpList_append_far _ rfl _ _ 23 rfl w9.heap.size 38 ir _ 3 40 Try.underlying23 hr0 hr1 hr2 hr3 rfl (by decide) _ 1 [.int .i64 0, .bool true, .slice (some ⟨w9.heap.size, 0, none⟩) 1 1] rfl (by exact own_new (g := w9.heap.size + 1) rfl (by simp) (by first | omega | simp)) _ rn (psr.flatMap three) rfl (HBR.out.row.below (by repeat (first | exact Below.refl _ _ | refine Below.drew ?_ | refine bel_new ?_ _))) (by rw [threes_len, HBR.out.len]) (threes_one (fun p hp => (HBR.out.el p hp).here)) (by unfold maxLen; omega) (by omega) (by simp <;> omega) ?_; intro v10 w10 hown10 hg10 hf10 hb10; obtain ⟨o10, c10, rfl⟩ := owns_slice hown10
        have hB10 : Below w9.heap.size w9 w10 := Below.trans (by repeat (first | exact Below.refl _ _ | refine Below.drew ?_ | refine bel_new ?_ _)) hb10
        have hp10 := bel_get hB10 HBX.out.hg
        have z0 : w10.cell? ⟨w2.heap.size, 1, none⟩ = some (.slice orr rn cr) := by simp [World.cell?, hp10]
        have z1 : w10.frozen? ⟨w2.heap.size, 1, none⟩ = false := by simp [World.frozen?, hp10])
      go_meet
      have hg' : (((w9.alloc (.cells #[.slice none 0 0, .int .i64 4, .slice none 0 0, .slice none 0 0, .slice none 0 0] 45)).alloc (.cells #[.int .i64 0, .bool true, .slice (some ⟨w9.heap.size, 0, none⟩) 1 1] 38))).grownBy w10 (some (w9.heap.size + 1)) := hg10
      have hal := allocs_heap [.cells #[.slice none 0 0, .int .i64 4, .slice none 0 0, .slice none 0 0, .slice none 0 0] 45, .cells #[.int .i64 0, .bool true, .slice (some ⟨w9.heap.size, 0, none⟩) 1 1] 38] w9
      exact HBX.out.rule (r0 := ru6) (X := ((w9.alloc (.cells #[.slice none 0 0, .int .i64 4, .slice none 0 0, .slice none 0 0, .slice none 0 0] 45)).alloc (.cells #[.int .i64 0, .bool true, .slice (some ⟨w9.heap.size, 0, none⟩) 1 1] 38))) HBR.out (by repeat (first | exact Below.refl _ _ | refine Below.drew ?_ | refine bel_new ?_ _)) hb10 hown10 rfl ((KP.block (b := w9.heap.size) (by rw [hg'.block _ (by first | (simp; done) | (simp; omega) | omega) (by first | (simp; done) | (simp; omega) | omega)]; exact hal 0 (by simp)) (by omega)).mono fun w' h' => sts_well h') (RGoodF.ru6) (by rw [brk_6 HBX.out.mt HBX.out.rl, HN.out.1]) (by decide)
    · have n0 : ¬ w2.heap.size = w9.heap.size := by omega
      have n1 : w2.heap.size < w9.heap.size + 1 := by omega
      have n2 : w2.heap.size < w9.heap.size + 1 + 1 := by omega
      have n3 : ¬ w2.heap.size = w9.heap.size + 1 := by omega
      have n4 : ¬ w2.heap.size = w9.heap.size + 1 + 1 := by omega
      go_wp2_with (
        at_builtin; refine wpList_append_far _ rfl _ _ 23 rfl w9.heap.size 38 ir _ 3 40 Try.underlying23 hr0 hr1 hr2 hr3 rfl (by decide) _ 1 [.int .i64 0, .bool false, .slice none 0 0] rfl (by exact own_new (g := w9.heap.size) rfl (by simp) (by first | omega | simp)) _ rn (psr.flatMap three) rfl (HBR.out.row.below (by repeat (first | exact Below.refl _ _ | refine Below.drew ?_ | refine bel_new ?_ _))) (by rw [threes_len, HBR.out.len]) (threes_one (fun p hp => (HBR.out.el p hp).here)) (by unfold maxLen; omega) (by omega) (by simp <;> omega) ?_; intro v10 w10 hown10 hg10 hf10 hb10; obtain ⟨o10, c10, rfl⟩ := owns_slice hown10
        have hB10 : Below w9.heap.size w9 w10 := Below.trans (by repeat (first | exact Below.refl _ _ | refine Below.drew ?_ | refine bel_new ?_ _)) hb10
        have hp10 := bel_get hB10 HBX.out.hg
        have z0 : w10.cell? ⟨w2.heap.size, 1, none⟩ = some (.slice orr rn cr) := by simp [World.cell?, hp10]
        have z1 : w10.frozen? ⟨w2.heap.size, 1, none⟩ = false := by simp [World.frozen?, hp10])
      go_meet
      have hg' : ((w9.alloc (.cells #[.int .i64 0, .bool false, .slice none 0 0] 38))).grownBy w10 (some (w9.heap.size)) := hg10
      have hal := allocs_heap [.cells #[.int .i64 0, .bool false, .slice none 0 0] 38] w9
      exact HBX.out.rule (r0 := ru7) (X := (w9.alloc (.cells #[.int .i64 0, .bool false, .slice none 0 0] 38))) HBR.out (by repeat (first | exact Below.refl _ _ | refine Below.drew ?_ | refine bel_new ?_ _)) hb10 hown10 rfl (fun w' _ => sts_nil w') (RGoodF.ru7) (by rw [brk_7 HBX.out.mt HBX.out.rl, HN.out.1]) (by decide)
  case rest =>
    obtain ⟨code, at_, T', R', tv', rv', rfl, rfl, hpg, hkp, hft, hfr, hlt, hlr, hchk, hne, hbel⟩ := hcut
    obtain ⟨orv, crv, rfl⟩ := hkp.here.2.form
    have hag : Ag (fun k => k ≠ w2.heap.size) wc (wc.setCell ⟨w2.heap.size, 0, none⟩ (.slice o9 n c9)) := (Ag.refl _ _).setCell (fun h => h rfl) _
    have hpg3 : (wc.setCell ⟨w2.heap.size, 0, none⟩ (.slice o9 n c9)).heap[w2.heap.size]? = some (.cells #[.slice o9 n c9, .slice orv R'.length crv] 25 (0, 0)) := by
      simp [World.setCell, Array.getElem?_modify, hpg]
    have hk3 := hkp _ hag
    have hb3 : Below w.heap.size w (wc.setCell ⟨w2.heap.size, 0, none⟩ (.slice o9 n c9)) := hbel.setCell H.out.2.2.2.2.2.2.2.2.2.size _
    have c0 : wc.cell? ⟨w2.heap.size, 0, none⟩ = some tv' ∧ wc.cell? ⟨w2.heap.size, 1, none⟩ = some (.slice orv R'.length crv) ∧ wc.frozen? ⟨w2.heap.size, 0, none⟩ = false := by simp [World.cell?, World.frozen?, hpg]
    obtain ⟨c0, c1, c2⟩ := c0
    clear hpg hkp hag hbel
    go_upto_region 30 with (fail)
    obtain ⟨w3, hw3⟩ : ∃ w3, w3 = wc.setCell ⟨w2.heap.size, 0, none⟩ (.slice o9 n c9) := ⟨_, rfl⟩
    rw [← hw3] at hpg3 hk3 hb3 ⊢
    clear hw3 c0 c1 c2
    have HG := Lib.hid (BG.mk hpg3 hk3.1 hk3.2 hb3)
    have HC := Lib.hid (And.intro hft (And.intro hfr (And.intro hlt (And.intro hlr (And.intro hchk hne)))))
    clear hpg3 hk3 hb3 hft hfr hlt hlr hchk hne
    obtain ⟨c0, c1⟩ := HG.out.cells
    go_wp2_with fail
    have hc := gchk_any T' R' _ _ w3 HG.out.tks HG.out.rus HC.out.2.2.1 HC.out.2.2.2.1 HC.out.1 HC.out.2.1
    rw [HC.out.2.2.2.2.1] at hc
    refine hc.mono ?_
    clear hc c0 c1
    rintro e w4 ⟨rfl, hb⟩
    replace HG := Lib.hid (HG.out.moved hb)
    clear hb
    go_wp2_with fail
    refine (gtold_any w4).mono ?_
    rintro e w5 ⟨rfl, hb⟩
    replace HG := Lib.hid (HG.out.moved hb)
    clear hb
    go_wp2_with fail
    refine (hM L vs lv w5 (hL.moved HG.out.bel) hB).mono ?_
    rintro e w6 ⟨T2, R2, tv2, rv2, rfl, hT2, hR2, hTm2, hRg2, hRl2, hb⟩
    replace HG := Lib.hid (HG.out.moved hb)
    have hl2 := hTm2.len
    have hc := gramMay_any T2 R2 tv2 rv2 w6 hT2 hR2 (by omega) (by omega) hTm2.fit (RGood.fit hRg2)
    rw [chk_good hTm2 hRg2 hRl2] at hc
    clear hb hT2 hR2 hTm2 hRg2 hRl2 hl2
    go_wp2_with fail
    refine hc.mono ?_
    clear hc
    rintro e w7 ⟨rfl, hb⟩
    replace HG := Lib.hid (HG.out.moved hb)
    clear hb
    obtain ⟨c0, c1⟩ := HG.out.cells
    have hc := gramMay_any T' R' _ _ w7 HG.out.tks HG.out.rus HC.out.2.2.1 HC.out.2.2.2.1 HC.out.1 HC.out.2.1
    rw [HC.out.2.2.2.2.1] at hc
    have hne : decide (code = 0) = false := by simpa using HC.out.2.2.2.2.2
    simp only [hne] at hc
    go_wp2_with fail
    refine hc.mono ?_
    rintro e w8 ⟨rfl, hb⟩
    replace HG := Lib.hid (HG.out.moved hb)
    clear hb c0 c1 hc
    go_wp2_with fail
    go_ret
    exact ⟨rfl, HG.out.bel⟩
end Go.Proofs.Ytkmnigoikkffnaa
