/- gobolaw11.GramLimits. -/
import Derived.Test.YtbanmggkfpnalaaGreatDoorGTold
set_option linter.unusedVariables false
set_option linter.unusedSimpArgs false
namespace Go.Proofs.YtbanmggkfpnalaaGreatDoor
open Go.RowKit Ru

abbrev TkO (X : Nat → Prop) (w : World) (B : Nat) (v : Value) (ps : List (TK × Value × Value)) : Prop := Own X w B 61 6 v six (fun w' p => ReIs w' p.1.re p.2.1 p.2.2) ps
abbrev StO (X : Nat → Prop) (w : World) (B : Nat) (v : Value) (ps : List (ST × Value × Value × Value × Value)) : Prop := Own X w B 66 5 v five (fun w' p => Row w' p.2.1 p.1.calls.length (strs p.1.calls) ∧ PtIs w' p.1.p p.2.2.1 p.2.2.2.1 p.2.2.2.2) ps
abbrev RuO (X : Nat → Prop) (w : World) (B : Nat) (v : Value) (ps : List (RU × Value)) : Prop := Own X w B 64 3 v three (fun w' p => StsAre w' p.2 p.1.steps) ps
theorem mem_at {α : Type} {l : List α} {i : Nat} {p : α} (h : l[i]? = some p) : p ∈ l := List.mem_of_getElem? h
theorem TkO.are {X : Nat → Prop} {w : World} {B : Nat} {v : Value} {ps : List (TK × Value × Value)} (h : TkO X w B v ps) : TksAre w v (ps.map (·.1)) :=
  ⟨ps, rfl, by simpa using Row.owned h.row, fun i p hp => (h.keep p (mem_at hp)).here⟩
theorem StO.are {X : Nat → Prop} {w : World} {B : Nat} {v : Value} {ps : List (ST × Value × Value × Value × Value)} (h : StO X w B v ps) : StsAre w v (ps.map (·.1)) :=
  ⟨ps, rfl, by simpa using Row.owned h.row, fun i p hp => (h.keep p (mem_at hp)).here⟩
theorem RuO.are {X : Nat → Prop} {w : World} {B : Nat} {v : Value} {ps : List (RU × Value)} (h : RuO X w B v ps) : RusAre w v (ps.map (·.1)) :=
  ⟨ps, rfl, by simpa using Row.owned h.row, fun i p hp => (h.keep p (mem_at hp)).here⟩
/-- Make's four tokens, owned -/
def ps0 (ra rb rc rd : Nat) : List (TK × Value × Value) := [(tkA, .slice (some ⟨ra, 0, none⟩) 1 1, .slice none 0 0), (⟨⟨#[98]⟩, 0, 2, .mk 2 [(10, 10), (98, 98)] []⟩, .slice (some ⟨rb, 0, none⟩) 2 2, .slice none 0 0), (⟨⟨#[111]⟩, 1, 3, .mk 2 [(99, 99)] []⟩, .slice (some ⟨rc, 0, none⟩) 1 1, .slice none 0 0), (⟨⟨#[99]⟩, 2, 4, .mk 2 [(100, 100)] []⟩, .slice (some ⟨rd, 0, none⟩) 1 1, .slice none 0 0)]
theorem ps0_tok (ra rb rc rd : Nat) : (ps0 ra rb rc rd).map (·.1) = T0 := rfl
theorem Mk0.tko {X : Nat → Prop} {w w' : World} {pt ra rb rc rd : Nat} (h : Mk0 w w' pt ra rb rc rd) (hX : ∀ k, k < w'.heap.size → X k) : TkO X w' w.heap.size (.slice (some ⟨pt, 0, none⟩) 4 4) (ps0 ra rb rc rd) := by
  have hne : ∀ {k : Nat} {o : Obj}, w'.heap[k]? = some o → o ≠ .cells (t0cells ra rb rc rd) 61 (0, 0) → X k ∧ Value.ownBlock (.slice (some ⟨pt, 0, none⟩) 4 4) ≠ some k := by
    intro k o hk ho
    refine ⟨hX k (hp_lt hk), fun e => ?_⟩
    simp [Value.ownBlock] at e
    subst e
    rw [h.ht] at hk
    exact ho (by cases hk; rfl)
  refine ⟨h.owns, ?_⟩
  intro p hp
  simp only [ps0, List.mem_cons, List.not_mem_nil, or_false] at hp
  rcases hp with rfl | rfl | rfl | rfl
  · exact (KP.block h.ha (hne h.ha (by simp))).mono fun w2 h2 => re_set [(97, 97)] 1 rfl (by decide) h2
  · exact (KP.block h.hb (hne h.hb (by simp))).mono fun w2 h2 => re_set [(10, 10), (98, 98)] 2 rfl (by decide) h2
  · exact (KP.block h.hc (hne h.hc (by simp))).mono fun w2 h2 => re_set [(99, 99)] 1 rfl (by decide) h2
  · exact (KP.block h.hd (hne h.hd (by simp))).mono fun w2 h2 => re_set [(100, 100)] 1 rfl (by decide) h2
end Go.Proofs.YtbanmggkfpnalaaGreatDoor

set_option linter.unusedVariables false
set_option linter.unusedSimpArgs false
namespace Go.Proofs.YtbanmggkfpnalaaGreatDoor
open Go.RowKit Ru

theorem u64_mod' (a : Int) (m : Nat) (hm : 0 < m) (hm2 : m ≤ 1048576) : ∃ i : Nat, i < m ∧ (IntKind.u64.wrap a).tmod (m : Int) = (i : Int) := by
  have h0 : 0 ≤ IntKind.u64.wrap a := by unfold IntKind.wrap; simp [IntKind.bits, IntKind.signed]; omega
  have h1 := Int.tmod_nonneg (m : Int) h0
  have h2 := Int.tmod_lt_of_pos (IntKind.u64.wrap a) (show (0 : Int) < (m : Int) by omega)
  exact ⟨((IntKind.u64.wrap a).tmod (m : Int)).toNat, by omega, by omega⟩
def digs : ByteArray := ⟨#[48, 49, 50, 51, 52, 53, 54, 55, 56, 57, 97, 98, 99, 100, 101, 102, 103, 104, 105, 106]⟩
def tkI (i : Nat) : TK := ⟨⟨#[116]⟩ ++ digs.extract i (i + 1), 0, 0, .mk 2 [(120, 120)] []⟩
def tks : Nat → List TK
  | 0 => []
  | n + 1 => tks n ++ [tkI (4 + n)]
/-- a row's block is not a block of another type -/
theorem own_far {w : World} {base size n p : Nat} {e t : TypeId} {v : Value} {xs : List Value} {cs : Array Value} {fr : Nat × Nat} (h : w.ownsRow base e size v n xs) (hp : w.heap[p]? = some (.cells cs t fr)) (ht : e ≠ t) : v.ownBlock ≠ some p := by
  rcases h.2 with ⟨rfl, -⟩ | ⟨g, cap, cur, rfl, hb, hgg, rest⟩
  · simp [Value.ownBlock]
  · intro hk
    simp [Value.ownBlock] at hk
    subst hk
    rw [hgg] at hp
    exact ht (by cases hp; rfl)
/-- g, of so many tokens, in memory -/
def LM (w : World) (pg i j : Nat) (wx : World) : Prop := ∃ (o : Option Addr) (c : Nat) (ps : List (TK × Value × Value)), i = 4 + j ∧ ps.length = i ∧ ps.map (·.1) = T0 ++ tks j ∧ wx.heap[pg]? = some (.cells #[.slice o i c, .slice none 0 0] 35 (0, 0)) ∧
  TkO (fun k => k ≠ pg) wx w.heap.size (.slice o i c) ps ∧ Below w.heap.size w wx ∧ w.heap.size ≤ pg
theorem al_two (w : World) (a b : Obj) : ((w.alloc a).alloc b).heap[w.heap.size + 1]? = some b := by
  have := heap_alloc_new (w.alloc a) b
  simpa using this
theorem LM.start {w w2 : World} {pt ra rb rc rd : Nat} {g : Obj} (h : Mk0 w w2 pt ra rb rc rd) : LM w w2.heap.size 4 0 ((w2.alloc (.cells #[.slice (some ⟨pt, 0, none⟩) 4 4, .slice none 0 0] 35)).alloc g) :=
  ⟨_, _, ps0 ra rb rc rd, rfl, rfl, by rw [ps0_tok]; rfl, by rw [Below.heap_alloc _ _ _ (by simp)]; exact heap_alloc_new _ _,
   (h.tko (fun k hk => by omega)).moved (bel_new (bel_new (Below.refl _ _) _) _), bel_then h.bel (bel_new (bel_new (Below.refl _ _) _) _), h.bel.size⟩
theorem LM.step {w wx X w9 : World} {pg i j c c9 q : Nat} {o o9 : Option Addr} {ps : List (TK × Value × Value)} {news : List Value} (hij : i = 4 + j) (hpl : ps.length = i) (hps : ps.map (·.1) = T0 ++ tks j)
    (hpg : wx.heap[pg]? = some (.cells #[.slice o i c, .slice none 0 0] 35 (0, 0))) (hown : TkO (fun k => k ≠ pg) wx w.heap.size (.slice o i c) ps) (hbel : Below w.heap.size w wx) (hge : w.heap.size ≤ pg)
    (hX : Below wx.heap.size wx X) (hq : X.heap[q]? = some (.cells #[.int .i32 120, .int .i32 120] 53 (0, 0))) (hqg : wx.heap.size ≤ q)
    (hown9 : w9.ownsRow w.heap.size 61 6 (.slice o9 (i + 1) c9) (i + 1) (ps.flatMap six ++ news)) (hnews : news = six (tkI i, .slice (some ⟨q, 0, none⟩) 1 1, .slice none 0 0))
    (hg9 : X.grownBy w9 (Value.slice o i c).ownBlock) (hf9 : ∀ k, (Value.slice o9 (i + 1) c9).ownBlock = some k → (Value.slice o i c).ownBlock = some k ∨ X.heap.size ≤ k) (hb9 : Below w.heap.size X w9) :
    LM w pg (i + 1) (j + 1) (w9.setCell ⟨pg, 0, none⟩ (.slice o9 (i + 1) c9)) := by
  subst hnews
  have hlt := hown.row.lt
  have hpl' := hp_lt hpg
  have hownX := hown.moved hX
  have hN : (Value.slice o i c).ownBlock ≠ some pg := own_far hown.row hpg (by decide)
  have hp9 : w9.heap[pg]? = some (.cells #[.slice o i c, .slice none 0 0] 35 (0, 0)) := by
    rw [hg9.block pg (by have := hX.size; omega) (fun e => hN e.symm)]; exact bel_get hX hpg
  have hN9 : (Value.slice o9 (i + 1) c9).ownBlock ≠ some pg := own_far hown9 hp9 (by decide)
  have hpush := hownX.push (w' := w9) (v' := .slice o9 (i + 1) c9) (p := (tkI i, .slice (some ⟨q, 0, none⟩) 1 1, .slice none 0 0)) (by rw [hpl]; exact hown9) hg9 hf9
    ((KP.block hq ⟨by omega, fun e => by have := (hlt q e).2; omega⟩).mono fun w2 h2 => re_set [(120, 120)] 1 rfl (by decide) h2)
  refine ⟨o9, c9, ps ++ [(tkI i, .slice (some ⟨q, 0, none⟩) 1 1, .slice none 0 0)], by omega, by simp [hpl], by simp [hps, tks, hij], by simp [World.setCell, Array.getElem?_modify, hp9], ?_, ?_, hge⟩
  · refine hpush.ag ((Ag.refl _ _).setCell ?_ _)
    exact fun h => h.elim (fun h => h rfl) hN9
  · exact ((hbel.trans (hX.mono hbel.size)).trans hb9).setCell hge _
theorem tfit_mem {l : List TK} : TFit l ↔ ∀ t ∈ l, t.name.size ≤ 1000 ∧ t.re.Fit :=
  ⟨fun h t ht => by obtain ⟨i, hi⟩ := List.mem_iff_getElem?.1 ht; exact h i t hi, fun h i t hi => h t (List.mem_of_getElem? hi)⟩
theorem tks_fit : ∀ j, TFit (T0 ++ tks j) := by
  intro j
  rw [tfit_mem]
  intro t ht
  rcases List.mem_append.1 ht with h | h
  · exact tfit_mem.1 T0_fit t h
  · induction j with
    | zero => simp [tks] at h
    | succ j ih =>
      simp only [tks, List.mem_append, List.mem_singleton] at h
      rcases h with h | rfl
      · exact ih (List.mem_append_right _ h) h
      · have h1 : (⟨#[116]⟩ : ByteArray).size = 1 := rfl
        have h2 : digs.size = 20 := rfl
        exact ⟨by simp [tkI, h1, h2]; omega, re_fit (by unfold i32s; decide) (by decide)⟩
theorem tks_len (j : Nat) : (T0 ++ tks j).length = 4 + j := by
  induction j with
  | zero => rfl
  | succ j ih => simp only [tks, List.length_append, List.length_singleton] at *; omega
theorem chk_t0 : chkE (T0 ++ tks 10) [] = (0, 0) := by kernel_rfl
theorem chk_t1 : chkE (T0 ++ tks 11) [] = (0, 0) := by kernel_rfl
theorem chk_t2 : chkE (T0 ++ tks 12) [] = (0, 0) := by kernel_rfl
theorem chk_t3 : chkE (T0 ++ tks 13) [] = (6, 0) := by kernel_rfl
theorem chk_ts {k : Nat} (h : k ≤ 2) : chkE (T0 ++ tks (10 + k)) [] = (0, 0) := by
  obtain rfl | rfl | rfl : k = 0 ∨ k = 1 ∨ k = 2 := by omega
  · exact chk_t0
  · exact chk_t1
  · exact chk_t2
theorem row_new {w : World} {e : TypeId} {g size : Nat} {cs : Array Value} (hs : cs.size = size) (hg : g = w.heap.size) : Row (w.alloc (.cells cs e)) (.slice (some ⟨g, 0, none⟩) 1 1) 1 cs.toList := by
  subst hg; exact Row.owned (row_block (n := 1) (size := size) (heap_alloc_new w _) (by simpa using hs) (by decide))
theorem infoRule : ∃ i, Tryz.prog.info? 64 = some i ∧ i.zero = some (.agg #[.int .i64 0, .bool false, .slice none 0 0]) ∧ i.size = 3 ∧ i.bytes = 40 := info_parts (by kernel_rfl)
theorem infoStep : ∃ i, Tryz.prog.info? 66 = some i ∧ i.zero = some (.agg #[.slice none 0 0, .int .i64 0, .slice none 0 0, .slice none 0 0, .slice none 0 0]) ∧ i.size = 5 ∧ i.bytes = 104 := info_parts (by kernel_rfl)
theorem type_far {w : World} {p q : Nat} {cs ds : Array Value} {t u : TypeId} {f g : Nat × Nat} (hp : w.heap[p]? = some (.cells cs t f)) (hq : w.heap[q]? = some (.cells ds u g)) (h : t ≠ u) : p ≠ q := by
  intro e; subst e; rw [hp] at hq; exact h (by cases hq; rfl)
theorem kb {wx X w9 : World} {pg n q : Nat} {row : Option Nat} {o : Obj} (v : Value) (h : wx.heap[q]? = some o) (hX : Below wx.heap.size wx X) (hg : X.grownBy w9 row) (hr : row ≠ some q) (hq : q ≠ pg) : (w9.setCell ⟨pg, n, none⟩ v).heap[q]? = some o := by
  have := hp_lt h
  rw [Below.heap_setCell _ _ _ _ (by simpa using hq), hg.block q (by have := hX.size; omega) (fun e => hr e.symm)]
  exact bel_get hX h
theorem Mk0.turn {w wx X w9 : World} {pt ra rb rc rd pg n size m : Nat} {e : TypeId} {v u : Value} {xs : List Value} (h : Mk0 w wx pt ra rb rc rd) (hown : wx.ownsRow w.heap.size e size v m xs) (hX : Below wx.heap.size wx X) (hg : X.grownBy w9 v.ownBlock)
    {cs : Array Value} {t : TypeId} {f : Nat × Nat} (hpg : wx.heap[pg]? = some (.cells cs t f)) (ht1 : 61 ≠ t) (ht2 : 53 ≠ t) (he1 : e ≠ 61) (he2 : e ≠ 53) (hge : w.heap.size ≤ pg) : Mk0 w (w9.setCell ⟨pg, n, none⟩ u) pt ra rb rc rd := by
  have hb : Below w.heap.size w w9 := (h.bel.trans (hX.mono h.bel.size)).grown hg (by have := h.bel.size; have := hX.size; omega) (fun k hk => (hown.lt k hk).1)
  exact ⟨hb.setCell hge _, h.ge, kb _ h.ht hX hg (own_far hown h.ht he1) (type_far h.ht hpg ht1), kb _ h.ha hX hg (own_far hown h.ha he2) (type_far h.ha hpg ht2), kb _ h.hb hX hg (own_far hown h.hb he2) (type_far h.hb hpg ht2), kb _ h.hc hX hg (own_far hown h.hc he2) (type_far h.hc hpg ht2), kb _ h.hd hX hg (own_far hown h.hd he2) (type_far h.hd hpg ht2)⟩
theorem kp_two {S : Nat → Prop} {w : World} {a b : Nat} {o p : Obj} {F : World → Prop} (ha : w.heap[a]? = some o) (hb : w.heap[b]? = some p) (hSa : S a) (hSb : S b) (hF : ∀ w', w'.heap[a]? = some o → w'.heap[b]? = some p → F w') : KP S w F :=
  fun w' h' => hF w' (KP.block ha hSa w' h') (KP.block hb hSb w' h')
def ptE : PT := .mk 1 [] [] []
def stO (p : PT) : ST := ⟨[⟨#[111]⟩], p⟩
def ruW : RU := ⟨0, true, [stO ptWell]⟩
theorem pt_kind (k : Int) (w : World) : PtIs w (.mk k [] [] []) (.slice none 0 0) (.slice none 0 0) (.slice none 0 0) :=
  .mk k [] [] [] _ _ _ [] (Row.nil w) (Row.nil w) (Row.nil w) rfl (fun i c p h => by simp at h) (fun i c p h => by simp at h)
theorem ptE_fit : ptE.Fit := .mk 1 [] [] [] (by decide) (by decide) (by decide) (fun i p h => by simp at h)
theorem one_call {w : World} {cl : Nat} (h : w.heap[cl]? = some (.cells #[.string ⟨#[111]⟩] 9 (0, 0))) : Row w (.slice (some ⟨cl, 0, none⟩) 1 1) 1 (strs [⟨#[111]⟩]) :=
  Row.owned (row_block (n := 1) (size := 1) h rfl (by decide))
theorem sts_one {w : World} {st cl : Nat} (hs : w.heap[st]? = some (.cells #[.slice (some ⟨cl, 0, none⟩) 1 1, .int .i64 4, .slice none 0 0, .slice none 0 0, .slice none 0 0] 66 (0, 0))) (hc : w.heap[cl]? = some (.cells #[.string ⟨#[111]⟩] 9 (0, 0))) :
    StsAre w (.slice (some ⟨st, 0, none⟩) 1 1) [stO ptWell] := by
  refine ⟨[(stO ptWell, .slice (some ⟨cl, 0, none⟩) 1 1, .slice none 0 0, .slice none 0 0, .slice none 0 0)], rfl, Row.owned (row_block (n := 1) (size := 5) hs rfl (by decide)), ?_⟩
  intro i p hp
  match i, hp with
  | 0, hp => cases hp; exact ⟨one_call hc, pt_well w⟩
  | (n + 1), hp => simp at hp
/-- g, of so many rules, in memory -/
structure LR (w : World) (pg pr st cl pt ra rb rc rd i : Nat) (o : Option Addr) (c : Nat) (ps : List (RU × Value)) (wx : World) : Prop where
  len : ps.length = i
  all : ps.map (·.1) = List.replicate i ruW
  hg : wx.heap[pg]? = some (.cells #[.slice (some ⟨pt, 0, none⟩) 4 4, .slice o i c] 35 (0, 0))
  hr : wx.heap[pr]? = some (.cells #[.int .i64 0, .bool true, .slice (some ⟨st, 0, none⟩) 1 1] 64 (0, 0))
  hs : wx.heap[st]? = some (.cells #[.slice (some ⟨cl, 0, none⟩) 1 1, .int .i64 4, .slice none 0 0, .slice none 0 0, .slice none 0 0] 66 (0, 0))
  hc : wx.heap[cl]? = some (.cells #[.string ⟨#[111]⟩] 9 (0, 0))
  own : RuO (fun k => k ≠ pg) wx (pr + 1) (.slice o i c) ps
  m : Mk0 w wx pt ra rb rc rd
  ge : w.heap.size ≤ pg
  lt : pr < wx.heap.size
  bas : w.heap.size ≤ pr
theorem LR.step {w wx X w9 : World} {pg pr st cl pt ra rb rc rd i c c9 : Nat} {o o9 : Option Addr} {ps : List (RU × Value)} {news : List Value} (h : LR w pg pr st cl pt ra rb rc rd i o c ps wx)
    (hX : Below wx.heap.size wx X) (hown9 : w9.ownsRow (pr + 1) 64 3 (.slice o9 (i + 1) c9) (i + 1) (ps.flatMap three ++ news)) (hnews : news = three (ruW, .slice (some ⟨st, 0, none⟩) 1 1))
    (hg9 : X.grownBy w9 (Value.slice o i c).ownBlock) (hf9 : ∀ k, (Value.slice o9 (i + 1) c9).ownBlock = some k → (Value.slice o i c).ownBlock = some k ∨ X.heap.size ≤ k) :
    ∃ ps', LR w pg pr st cl pt ra rb rc rd (i + 1) o9 c9 ps' (w9.setCell ⟨pg, 1, none⟩ (.slice o9 (i + 1) c9)) := by
  subst hnews
  have hownX := h.own.moved hX
  have hrow := h.own.row
  have hrw : wx.ownsRow w.heap.size 64 3 (.slice o i c) ps.length (ps.flatMap three) := owns_base hrow (by have := h.bas; omega)
  have hN : (Value.slice o i c).ownBlock ≠ some pg := own_far hrow h.hg (by decide)
  have hpl := hp_lt h.hg
  have hp9 : w9.heap[pg]? = some (.cells #[.slice (some ⟨pt, 0, none⟩) 4 4, .slice o i c] 35 (0, 0)) := by
    rw [hg9.block pg (by have := hX.size; omega) (fun e => hN e.symm)]; exact bel_get hX h.hg
  have hN9 : (Value.slice o9 (i + 1) c9).ownBlock ≠ some pg := own_far hown9 hp9 (by decide)
  have hpush := hownX.push (w' := w9) (v' := .slice o9 (i + 1) c9) (p := (ruW, .slice (some ⟨st, 0, none⟩) 1 1)) (by rw [h.len]; exact hown9) hg9 hf9
    (kp_two (bel_get hX h.hs) (bel_get hX h.hc) ⟨type_far h.hs h.hg (by decide), own_far hrow h.hs (by decide)⟩ ⟨type_far h.hc h.hg (by decide), own_far hrow h.hc (by decide)⟩ fun w' => sts_one)
  refine ⟨ps ++ [(ruW, .slice (some ⟨st, 0, none⟩) 1 1)], by simp [h.len], by simp [h.all, List.replicate_succ'], by simp [World.setCell, Array.getElem?_modify, hp9], ?_, ?_, ?_, ?_, ?_, h.ge, ?_, h.bas⟩
  · exact kb _ h.hr hX hg9 (fun e => by have := (hrow.lt _ e).1; omega) (type_far h.hr h.hg (by decide))
  · exact kb _ h.hs hX hg9 (own_far hrow h.hs (by decide)) (type_far h.hs h.hg (by decide))
  · exact kb _ h.hc hX hg9 (own_far hrow h.hc (by decide)) (type_far h.hc h.hg (by decide))
  · exact hpush.ag ((Ag.refl _ _).setCell (fun h => h.elim (fun h => h rfl) hN9) _)
  · exact h.m.turn hrw hX hg9 h.hg (by decide) (by decide) (by decide) (by decide) h.ge
  · have := h.lt; have := hX.size; have := hg9.size; simp [World.setCell]; omega
theorem LR.start {w w2 : World} {pt ra rb rc rd : Nat} (h : Mk0 w w2 pt ra rb rc rd) : LR w w2.heap.size (w2.heap.size + 1) (w2.heap.size + 1 + 1 + 1) (w2.heap.size + 1 + 1) pt ra rb rc rd 0 none 0 [] ((((w2.alloc (.cells #[.slice (some ⟨pt, 0, none⟩) 4 4, .slice none 0 0] 35)).alloc
    (.cells #[.int .i64 0, .bool true, .slice (some ⟨w2.heap.size + 1 + 1 + 1, 0, none⟩) 1 1] 64)).alloc (.cells #[.string ⟨#[111]⟩] 9)).alloc (.cells #[.slice (some ⟨w2.heap.size + 1 + 1, 0, none⟩) 1 1, .int .i64 4, .slice none 0 0, .slice none 0 0, .slice none 0 0] 66)) := by
  have hal := allocs_heap [.cells #[.slice (some ⟨pt, 0, none⟩) 4 4, .slice none 0 0] 35, .cells #[.int .i64 0, .bool true, .slice (some ⟨w2.heap.size + 1 + 1 + 1, 0, none⟩) 1 1] 64, .cells #[.string ⟨#[111]⟩] 9, .cells #[.slice (some ⟨w2.heap.size + 1 + 1, 0, none⟩) 1 1, .int .i64 4, .slice none 0 0, .slice none 0 0, .slice none 0 0] 66] w2
  exact ⟨rfl, rfl, hal 0 (by simp), hal 1 (by simp), hal 3 (by simp), hal 2 (by simp), Own.nil, h.moved (bel_new (bel_new (bel_new (bel_new (Below.refl _ _) _) _) _) _), h.bel.size, by simp, by have := h.bel.size; omega⟩
theorem ruW_fit (n : Nat) : RFit (List.replicate n ruW) := by
  intro i r hr
  have : r = ruW := List.eq_of_mem_replicate (List.mem_of_getElem? hr)
  subst this
  refine ⟨by decide, ?_⟩
  intro i s hs
  match i, hs with
  | 0, hs => cases hs; exact ⟨by decide, well_fit⟩
  | (n + 1), hs => simp [ruW] at hs
theorem chk_r0 : chkE T0 (List.replicate 6 ruW) = (0, 0) := by kernel_rfl
theorem chk_r1 : chkE T0 (List.replicate 7 ruW) = (0, 0) := by kernel_rfl
theorem chk_r2 : chkE T0 (List.replicate 8 ruW) = (0, 0) := by kernel_rfl
theorem chk_r3 : chkE T0 (List.replicate 9 ruW) = (6, 4) := by kernel_rfl
theorem chk_rs {k : Nat} (h : k ≤ 2) : chkE T0 (List.replicate (6 + k) ruW) = (0, 0) := by
  obtain rfl | rfl | rfl : k = 0 ∨ k = 1 ∨ k = 2 := by omega
  · exact chk_r0
  · exact chk_r1
  · exact chk_r2
/-- r, of so many steps, in memory -/
structure LS (w : World) (pg pr pt ra rb rc rd i : Nat) (o : Option Addr) (c : Nat) (ps : List (ST × Value × Value × Value × Value)) (wx : World) : Prop where
  len : ps.length = i
  all : ps.map (·.1) = List.replicate i (stO ptE)
  hg : wx.heap[pg]? = some (.cells #[.slice (some ⟨pt, 0, none⟩) 4 4, .slice none 0 0] 35 (0, 0))
  hr : wx.heap[pr]? = some (.cells #[.int .i64 0, .bool true, .slice o i c] 64 (0, 0))
  own : StO (fun k => k ≠ pr ∧ k ≠ pg) wx w.heap.size (.slice o i c) ps
  m : Mk0 w wx pt ra rb rc rd
  gg : w.heap.size ≤ pg
  gr : w.heap.size ≤ pr
theorem LS.start {w w2 : World} {pt ra rb rc rd : Nat} (h : Mk0 w w2 pt ra rb rc rd) : LS w w2.heap.size (w2.heap.size + 1) pt ra rb rc rd 0 none 0 [] ((w2.alloc (.cells #[.slice (some ⟨pt, 0, none⟩) 4 4, .slice none 0 0] 35)).alloc
    (.cells #[.int .i64 0, .bool true, .slice none 0 0] 64)) := by
  have hal := allocs_heap [.cells #[.slice (some ⟨pt, 0, none⟩) 4 4, .slice none 0 0] 35, .cells #[.int .i64 0, .bool true, .slice none 0 0] 64] w2
  exact ⟨rfl, rfl, hal 0 (by simp), hal 1 (by simp), Own.nil, h.moved (bel_new (bel_new (Below.refl _ _) _) _), h.bel.size, by have := h.bel.size; omega⟩
theorem LS.step {w wx X w9 : World} {pg pr cl pt ra rb rc rd i c c9 : Nat} {o o9 : Option Addr} {ps : List (ST × Value × Value × Value × Value)} {news : List Value} (h : LS w pg pr pt ra rb rc rd i o c ps wx)
    (hX : Below wx.heap.size wx X) (hcl : X.heap[cl]? = some (.cells #[.string ⟨#[111]⟩] 9 (0, 0))) (hcg : wx.heap.size ≤ cl)
    (hown9 : w9.ownsRow w.heap.size 66 5 (.slice o9 (i + 1) c9) (i + 1) (ps.flatMap five ++ news)) (hnews : news = five (stO ptE, .slice (some ⟨cl, 0, none⟩) 1 1, .slice none 0 0, .slice none 0 0, .slice none 0 0))
    (hg9 : X.grownBy w9 (Value.slice o i c).ownBlock) (hf9 : ∀ k, (Value.slice o9 (i + 1) c9).ownBlock = some k → (Value.slice o i c).ownBlock = some k ∨ X.heap.size ≤ k) :
    ∃ ps', LS w pg pr pt ra rb rc rd (i + 1) o9 c9 ps' (w9.setCell ⟨pr, 2, none⟩ (.slice o9 (i + 1) c9)) := by
  subst hnews
  have hownX := h.own.moved hX
  have hrow := h.own.row
  have hN : (Value.slice o i c).ownBlock ≠ some pr := own_far hrow h.hr (by decide)
  have hpl := hp_lt h.hr
  have hgl := hp_lt h.hg
  have hp9 : w9.heap[pr]? = some (.cells #[.int .i64 0, .bool true, .slice o i c] 64 (0, 0)) := by
    rw [hg9.block pr (by have := hX.size; omega) (fun e => hN e.symm)]; exact bel_get hX h.hr
  have hN9 : (Value.slice o9 (i + 1) c9).ownBlock ≠ some pr := own_far hown9 hp9 (by decide)
  have hpush := hownX.push (w' := w9) (v' := .slice o9 (i + 1) c9) (p := (stO ptE, .slice (some ⟨cl, 0, none⟩) 1 1, .slice none 0 0, .slice none 0 0, .slice none 0 0)) (by rw [h.len]; exact hown9) hg9 hf9
    ((KP.block hcl ⟨⟨by omega, by omega⟩, fun e => by have := (hrow.lt _ e).2; omega⟩).mono fun w' h' => ⟨one_call h', pt_kind 1 w'⟩)
  refine ⟨ps ++ [(stO ptE, .slice (some ⟨cl, 0, none⟩) 1 1, .slice none 0 0, .slice none 0 0, .slice none 0 0)], by simp [h.len], by simp [h.all, List.replicate_succ'], ?_, by simp [World.setCell, Array.getElem?_modify, hp9], ?_, ?_, h.gg, h.gr⟩
  · exact kb _ h.hg hX hg9 (own_far hrow h.hg (by decide)) (type_far h.hg h.hr (by decide))
  · exact hpush.ag ((Ag.refl _ _).setCell (fun h => h.elim (fun h => h.1 rfl) hN9) _)
  · exact h.m.turn hrow hX hg9 h.hr (by decide) (by decide) (by decide) (by decide) h.gr
def ruS (n : Nat) : RU := ⟨0, true, List.replicate n (stO ptE)⟩
/-- g, with r as its one rule -/
theorem LS.last {w wx : World} {pg pr pt ra rb rc rd i c : Nat} {o : Option Addr} {ps : List (ST × Value × Value × Value × Value)} (h : LS w pg pr pt ra rb rc rd i o c ps wx) :
    RusAre ((wx.alloc (.cells #[.int .i64 0, .bool true, .slice o i c] 64)).setCell ⟨pg, 1, none⟩ (.slice (some ⟨wx.heap.size, 0, none⟩) 1 1)) (.slice (some ⟨wx.heap.size, 0, none⟩) 1 1) [ruS i] ∧
    Mk0 w ((wx.alloc (.cells #[.int .i64 0, .bool true, .slice o i c] 64)).setCell ⟨pg, 1, none⟩ (.slice (some ⟨wx.heap.size, 0, none⟩) 1 1)) pt ra rb rc rd ∧
    ((wx.alloc (.cells #[.int .i64 0, .bool true, .slice o i c] 64)).setCell ⟨pg, 1, none⟩ (.slice (some ⟨wx.heap.size, 0, none⟩) 1 1)).heap[pg]? = some (.cells #[.slice (some ⟨pt, 0, none⟩) 4 4, .slice (some ⟨wx.heap.size, 0, none⟩) 1 1] 35 (0, 0)) := by
  have hrow := h.own.row
  have hgl := hp_lt h.hg
  have hb : Below wx.heap.size wx (wx.alloc (.cells #[.int .i64 0, .bool true, .slice o i c] 64)) := bel_new (Below.refl _ _) _
  have hg1 := bel_get hb h.hg
  have hN : (Value.slice o i c).ownBlock ≠ some pg := own_far hrow h.hg (by decide)
  have hown := (h.own.moved hb).ag ((Ag.refl _ _).setCell (p := ⟨pg, 1, none⟩) (fun h => h.elim (fun h => h.2 rfl) hN) (.slice (some ⟨wx.heap.size, 0, none⟩) 1 1))
  refine ⟨⟨[(ruS i, .slice o i c)], rfl, ?_, ?_⟩, ?_, by simp [World.setCell, Array.getElem?_modify, hg1]⟩
  · refine Row.owned (row_block (n := 1) (size := 3) (cs := #[.int .i64 0, .bool true, .slice o i c]) (e := 64) ?_ rfl (by decide))
    rw [Below.heap_setCell _ _ _ _ (show wx.heap.size ≠ pg by omega)]
    exact heap_alloc_new wx _
  · intro j p hp
    match j, hp with
    | 0, hp =>
      cases hp
      have := StO.are hown
      rw [h.all] at this
      exact this
    | (n + 1), hp => simp at hp
  · exact h.m.turn hrow hb (World.grownBy.refl _ _) h.hg (by decide) (by decide) (by decide) (by decide) h.gg
theorem ruS_fit {n : Nat} (h : n ≤ 1000) : RFit [ruS n] := by
  intro i r hr
  match i, hr with
  | 0, hr =>
    cases hr
    refine ⟨by simpa [ruS] using h, fun j s hs => ?_⟩
    have : s = stO ptE := List.eq_of_mem_replicate (List.mem_of_getElem? hs)
    subst this
    exact ⟨by decide, ptE_fit⟩
  | (n + 1), hr => simp at hr
theorem chk_s0 : chkE T0 [ruS 2] = (0, 0) := by kernel_rfl
theorem chk_s1 : chkE T0 [ruS 3] = (0, 0) := by kernel_rfl
theorem chk_s2 : chkE T0 [ruS 4] = (0, 0) := by kernel_rfl
theorem chk_s3 : chkE T0 [ruS 5] = (6, 4) := by kernel_rfl
theorem chk_ss {k : Nat} (h : k ≤ 2) : chkE T0 [ruS (2 + k)] = (0, 0) := by
  obtain rfl | rfl | rfl : k = 0 ∨ k = 1 ∨ k = 2 := by omega
  · exact chk_s0
  · exact chk_s1
  · exact chk_s2
end Go.Proofs.YtbanmggkfpnalaaGreatDoor
