/- Merged: MkPick, QCall. -/
import Derived.Test.YtbanmggkfpnalaaGreatDoorGTold
import Derived.OrdersHeld
set_option linter.unusedVariables false
set_option linter.unusedSimpArgs false
namespace Go.Proofs.YtbanmggkfpnalaaGreatDoor
open Go.RowKit Ru

abbrev TkO (X : Nat → Prop) (w : World) (B : Nat) (v : Value) (ps : List (TK × Value × Value)) : Prop := Own X w B 61 6 v six (fun w' p => ReIs w' p.1.re p.2.1 p.2.2) ps
abbrev StO (X : Nat → Prop) (w : World) (B : Nat) (v : Value) (ps : List (ST × Value × Value × Value × Value)) : Prop := Own X w B 66 5 v five (fun w' p => Row w' p.2.1 p.1.calls.length (strs p.1.calls) ∧ PtIs w' p.1.p p.2.2.1 p.2.2.2.1 p.2.2.2.2) ps
abbrev RuO (X : Nat → Prop) (w : World) (B : Nat) (v : Value) (ps : List (RU × Value)) : Prop := Own X w B 64 3 v three (fun w' p => StsAre w' p.2 p.1.steps) ps
theorem mem_at {α : Type} {l : List α} {i : Nat} {p : α} (h : l[i]? = some p) : p ∈ l := List.mem_of_getElem? h
theorem TkO.are {X : Nat → Prop} {w : World} {B : Nat} {v : Value} {ps : List (TK × Value × Value)} (h : TkO X w B v ps) : TksAre w v (ps.map (·.1)) :=
  ⟨ps, rfl, by simpa using Row.owned h.row, fun i p hp => (h.keep p (mem_at hp)).here⟩
theorem StO.are {X : Nat → Prop} {w : World} {B : Nat} {v : Value} {ps : List (ST × Value × Value × Value × Value)} (h : StO X w B v ps) : StsAre w v (ps.map (·.1)) :=
  ⟨ps, rfl, by simpa using Row.owned h.row, fun i p hp => (h.keep p (mem_at hp)).here⟩
theorem RuO.are {X : Nat → Prop} {w : World} {B : Nat} {v : Value} {ps : List (RU × Value)} (h : RuO X w B v ps) : RusAre w v (ps.map (·.1)) :=
  ⟨ps, rfl, by simpa using Row.owned h.row, fun i p hp => (h.keep p (mem_at hp)).here⟩
def ps0 (ra rb rc rd : Nat) : List (TK × Value × Value) := [(tkA, .slice (some ⟨ra, 0, none⟩) 1 1, .slice none 0 0), (⟨⟨#[98]⟩, 0, 2, .mk 2 [(10, 10), (98, 98)] []⟩, .slice (some ⟨rb, 0, none⟩) 2 2, .slice none 0 0), (⟨⟨#[111]⟩, 1, 3, .mk 2 [(99, 99)] []⟩, .slice (some ⟨rc, 0, none⟩) 1 1, .slice none 0 0), (⟨⟨#[99]⟩, 2, 4, .mk 2 [(100, 100)] []⟩, .slice (some ⟨rd, 0, none⟩) 1 1, .slice none 0 0)]
theorem ps0_tok (ra rb rc rd : Nat) : (ps0 ra rb rc rd).map (·.1) = T0 := rfl
theorem Mk0.tko {X : Nat → Prop} {w w' : World} {pt ra rb rc rd : Nat} (h : Mk0 w w' pt ra rb rc rd) (hX : ∀ k, k < w'.heap.size → X k) : TkO X w' w.heap.size (.slice (some ⟨pt, 0, none⟩) 4 4) (ps0 ra rb rc rd) := by
  have hne : ∀ {k : Nat} {o : Obj}, w'.heap[k]? = some o → o ≠ .cells (t0cells ra rb rc rd) 61 (0, 0) → X k ∧ Value.ownBlock (.slice (some ⟨pt, 0, none⟩) 4 4) ≠ some k := by
    intro k o hk ho
    refine ⟨hX k (hp_lt hk), fun e => ?_⟩
    simp [Value.ownBlock] at e
    subst e
    rw [h.ht] at hk
    exact ho (by cases hk; rfl)
  refine ⟨h.owns, ?_⟩
  intro p hp
  simp only [ps0, List.mem_cons, List.not_mem_nil, or_false] at hp
  rcases hp with rfl | rfl | rfl | rfl
  · exact (KP.block h.ha (hne h.ha (by simp))).mono fun w2 h2 => re_set [(97, 97)] 1 rfl (by decide) h2
  · exact (KP.block h.hb (hne h.hb (by simp))).mono fun w2 h2 => re_set [(10, 10), (98, 98)] 2 rfl (by decide) h2
  · exact (KP.block h.hc (hne h.hc (by simp))).mono fun w2 h2 => re_set [(99, 99)] 1 rfl (by decide) h2
  · exact (KP.block h.hd (hne h.hd (by simp))).mono fun w2 h2 => re_set [(100, 100)] 1 rfl (by decide) h2
end Go.Proofs.YtbanmggkfpnalaaGreatDoor

namespace Go.Proofs.YtbanmggkfpnalaaGreatDoor
open Go.RowKit Ru

theorem u64_mod' (a : Int) (m : Nat) (hm : 0 < m) (hm2 : m ≤ 1048576) : ∃ i : Nat, i < m ∧ (IntKind.u64.wrap a).tmod (m : Int) = (i : Int) := by
  have h0 : 0 ≤ IntKind.u64.wrap a := by unfold IntKind.wrap; simp [IntKind.bits, IntKind.signed]; omega
  have h1 := Int.tmod_nonneg (m : Int) h0
  have h2 := Int.tmod_lt_of_pos (IntKind.u64.wrap a) (show (0 : Int) < (m : Int) by omega)
  exact ⟨((IntKind.u64.wrap a).tmod (m : Int)).toNat, by omega, by omega⟩
def digs : ByteArray := ⟨#[48, 49, 50, 51, 52, 53, 54, 55, 56, 57, 97, 98, 99, 100, 101, 102, 103, 104, 105, 106]⟩
def tkI (i : Nat) : TK := ⟨⟨#[116]⟩ ++ digs.extract i (i + 1), 0, 0, .mk 2 [(120, 120)] []⟩
def tks : Nat → List TK
  | 0 => []
  | n + 1 => tks n ++ [tkI (4 + n)]
theorem own_far {w : World} {base size n p : Nat} {e t : TypeId} {v : Value} {xs : List Value} {cs : Array Value} {fr : Nat × Nat} (h : w.ownsRow base e size v n xs) (hp : w.heap[p]? = some (.cells cs t fr)) (ht : e ≠ t) : v.ownBlock ≠ some p := by
  rcases h.2 with ⟨rfl, -⟩ | ⟨g, cap, cur, rfl, hb, hgg, rest⟩
  · simp [Value.ownBlock]
  · intro hk
    simp [Value.ownBlock] at hk
    subst hk
    rw [hgg] at hp
    exact ht (by cases hp; rfl)
def LM (w : World) (pg i j : Nat) (wx : World) : Prop := ∃ (o : Option Addr) (c : Nat) (ps : List (TK × Value × Value)), i = 4 + j ∧ ps.length = i ∧ ps.map (·.1) = T0 ++ tks j ∧ wx.heap[pg]? = some (.cells #[.slice o i c, .slice none 0 0] 35 (0, 0)) ∧
  TkO (fun k => k ≠ pg) wx w.heap.size (.slice o i c) ps ∧ Below w.heap.size w wx ∧ w.heap.size ≤ pg
theorem al_two (w : World) (a b : Obj) : ((w.alloc a).alloc b).heap[w.heap.size + 1]? = some b := by
  have := heap_alloc_new (w.alloc a) b
  simpa using this
theorem LM.start {w w2 : World} {pt ra rb rc rd : Nat} {g : Obj} (h : Mk0 w w2 pt ra rb rc rd) : LM w w2.heap.size 4 0 ((w2.alloc (.cells #[.slice (some ⟨pt, 0, none⟩) 4 4, .slice none 0 0] 35)).alloc g) :=
  ⟨_, _, ps0 ra rb rc rd, rfl, rfl, by rw [ps0_tok]; rfl, by rw [Below.heap_alloc _ _ _ (by simp)]; exact heap_alloc_new _ _,
   (h.tko (fun k hk => by omega)).moved (bel_new (bel_new (Below.refl _ _) _) _), bel_then h.bel (bel_new (bel_new (Below.refl _ _) _) _), h.bel.size⟩
theorem LM.step {w wx X w9 : World} {pg i j c c9 q : Nat} {o o9 : Option Addr} {ps : List (TK × Value × Value)} {news : List Value} (hij : i = 4 + j) (hpl : ps.length = i) (hps : ps.map (·.1) = T0 ++ tks j)
    (hpg : wx.heap[pg]? = some (.cells #[.slice o i c, .slice none 0 0] 35 (0, 0))) (hown : TkO (fun k => k ≠ pg) wx w.heap.size (.slice o i c) ps) (hbel : Below w.heap.size w wx) (hge : w.heap.size ≤ pg)
    (hX : Below wx.heap.size wx X) (hq : X.heap[q]? = some (.cells #[.int .i32 120, .int .i32 120] 53 (0, 0))) (hqg : wx.heap.size ≤ q)
    (hown9 : w9.ownsRow w.heap.size 61 6 (.slice o9 (i + 1) c9) (i + 1) (ps.flatMap six ++ news)) (hnews : news = six (tkI i, .slice (some ⟨q, 0, none⟩) 1 1, .slice none 0 0))
    (hg9 : X.grownBy w9 (Value.slice o i c).ownBlock) (hf9 : ∀ k, (Value.slice o9 (i + 1) c9).ownBlock = some k → (Value.slice o i c).ownBlock = some k ∨ X.heap.size ≤ k) (hb9 : Below w.heap.size X w9) :
    LM w pg (i + 1) (j + 1) (w9.setCell ⟨pg, 0, none⟩ (.slice o9 (i + 1) c9)) := by
  subst hnews
  have hlt := hown.row.lt
  have hpl' := hp_lt hpg
  have hownX := hown.moved hX
  have hN : (Value.slice o i c).ownBlock ≠ some pg := own_far hown.row hpg (by decide)
  have hp9 : w9.heap[pg]? = some (.cells #[.slice o i c, .slice none 0 0] 35 (0, 0)) := by
    rw [hg9.block pg (by have := hX.size; omega) (fun e => hN e.symm)]; exact bel_get hX hpg
  have hN9 : (Value.slice o9 (i + 1) c9).ownBlock ≠ some pg := own_far hown9 hp9 (by decide)
  have hpush := hownX.push (w' := w9) (v' := .slice o9 (i + 1) c9) (p := (tkI i, .slice (some ⟨q, 0, none⟩) 1 1, .slice none 0 0)) (by rw [hpl]; exact hown9) hg9 hf9
    ((KP.block hq ⟨by omega, fun e => by have := (hlt q e).2; omega⟩).mono fun w2 h2 => re_set [(120, 120)] 1 rfl (by decide) h2)
  refine ⟨o9, c9, ps ++ [(tkI i, .slice (some ⟨q, 0, none⟩) 1 1, .slice none 0 0)], by omega, by simp [hpl], by simp [hps, tks, hij], by simp [World.setCell, Array.getElem?_modify, hp9], ?_, ?_, hge⟩
  · refine hpush.ag ((Ag.refl _ _).setCell ?_ _)
    exact fun h => h.elim (fun h => h rfl) hN9
  · exact ((hbel.trans (hX.mono hbel.size)).trans hb9).setCell hge _
theorem tfit_mem {l : List TK} : TFit l ↔ ∀ t ∈ l, t.name.size ≤ 1000 ∧ t.re.Fit :=
  ⟨fun h t ht => by obtain ⟨i, hi⟩ := List.mem_iff_getElem?.1 ht; exact h i t hi, fun h i t hi => h t (List.mem_of_getElem? hi)⟩
theorem row_new {w : World} {e : TypeId} {g size : Nat} {cs : Array Value} (hs : cs.size = size) (hg : g = w.heap.size) : Row (w.alloc (.cells cs e)) (.slice (some ⟨g, 0, none⟩) 1 1) 1 cs.toList := by
  subst hg; exact Row.owned (row_block (n := 1) (size := size) (heap_alloc_new w _) (by simpa using hs) (by decide))
theorem infoRule : ∃ i, Tryz.prog.info? 64 = some i ∧ i.zero = some (.agg #[.int .i64 0, .bool false, .slice none 0 0]) ∧ i.size = 3 ∧ i.bytes = 40 := info_parts (by kernel_rfl)
theorem infoStep : ∃ i, Tryz.prog.info? 66 = some i ∧ i.zero = some (.agg #[.slice none 0 0, .int .i64 0, .slice none 0 0, .slice none 0 0, .slice none 0 0]) ∧ i.size = 5 ∧ i.bytes = 104 := info_parts (by kernel_rfl)
theorem type_far {w : World} {p q : Nat} {cs ds : Array Value} {t u : TypeId} {f g : Nat × Nat} (hp : w.heap[p]? = some (.cells cs t f)) (hq : w.heap[q]? = some (.cells ds u g)) (h : t ≠ u) : p ≠ q := by
  intro e; subst e; rw [hp] at hq; exact h (by cases hq; rfl)
theorem kb {wx X w9 : World} {pg n q : Nat} {row : Option Nat} {o : Obj} (v : Value) (h : wx.heap[q]? = some o) (hX : Below wx.heap.size wx X) (hg : X.grownBy w9 row) (hr : row ≠ some q) (hq : q ≠ pg) : (w9.setCell ⟨pg, n, none⟩ v).heap[q]? = some o := by
  have := hp_lt h
  rw [Below.heap_setCell _ _ _ _ (by simpa using hq), hg.block q (by have := hX.size; omega) (fun e => hr e.symm)]
  exact bel_get hX h
theorem Mk0.turn {w wx X w9 : World} {pt ra rb rc rd pg n size m : Nat} {e : TypeId} {v u : Value} {xs : List Value} (h : Mk0 w wx pt ra rb rc rd) (hown : wx.ownsRow w.heap.size e size v m xs) (hX : Below wx.heap.size wx X) (hg : X.grownBy w9 v.ownBlock)
    {cs : Array Value} {t : TypeId} {f : Nat × Nat} (hpg : wx.heap[pg]? = some (.cells cs t f)) (ht1 : 61 ≠ t) (ht2 : 53 ≠ t) (he1 : e ≠ 61) (he2 : e ≠ 53) (hge : w.heap.size ≤ pg) : Mk0 w (w9.setCell ⟨pg, n, none⟩ u) pt ra rb rc rd := by
  have hb : Below w.heap.size w w9 := (h.bel.trans (hX.mono h.bel.size)).grown hg (by have := h.bel.size; have := hX.size; omega) (fun k hk => (hown.lt k hk).1)
  exact ⟨hb.setCell hge _, h.ge, kb _ h.ht hX hg (own_far hown h.ht he1) (type_far h.ht hpg ht1), kb _ h.ha hX hg (own_far hown h.ha he2) (type_far h.ha hpg ht2), kb _ h.hb hX hg (own_far hown h.hb he2) (type_far h.hb hpg ht2), kb _ h.hc hX hg (own_far hown h.hc he2) (type_far h.hc hpg ht2), kb _ h.hd hX hg (own_far hown h.hd he2) (type_far h.hd hpg ht2)⟩
theorem kp_two {S : Nat → Prop} {w : World} {a b : Nat} {o p : Obj} {F : World → Prop} (ha : w.heap[a]? = some o) (hb : w.heap[b]? = some p) (hSa : S a) (hSb : S b) (hF : ∀ w', w'.heap[a]? = some o → w'.heap[b]? = some p → F w') : KP S w F :=
  fun w' h' => hF w' (KP.block ha hSa w' h') (KP.block hb hSb w' h')
def ptE : PT := .mk 1 [] [] []
def stO (p : PT) : ST := ⟨[⟨#[111]⟩], p⟩
def ruW : RU := ⟨0, true, [stO ptWell]⟩
theorem pt_kind (k : Int) (w : World) : PtIs w (.mk k [] [] []) (.slice none 0 0) (.slice none 0 0) (.slice none 0 0) :=
  .mk k [] [] [] _ _ _ [] (Row.nil w) (Row.nil w) (Row.nil w) rfl (fun i c p h => by simp at h) (fun i c p h => by simp at h)
theorem one_call {w : World} {cl : Nat} (h : w.heap[cl]? = some (.cells #[.string ⟨#[111]⟩] 9 (0, 0))) : Row w (.slice (some ⟨cl, 0, none⟩) 1 1) 1 (strs [⟨#[111]⟩]) :=
  Row.owned (row_block (n := 1) (size := 1) h rfl (by decide))
theorem sts_one {w : World} {st cl : Nat} (hs : w.heap[st]? = some (.cells #[.slice (some ⟨cl, 0, none⟩) 1 1, .int .i64 4, .slice none 0 0, .slice none 0 0, .slice none 0 0] 66 (0, 0))) (hc : w.heap[cl]? = some (.cells #[.string ⟨#[111]⟩] 9 (0, 0))) :
    StsAre w (.slice (some ⟨st, 0, none⟩) 1 1) [stO ptWell] := by
  refine ⟨[(stO ptWell, .slice (some ⟨cl, 0, none⟩) 1 1, .slice none 0 0, .slice none 0 0, .slice none 0 0)], rfl, Row.owned (row_block (n := 1) (size := 5) hs rfl (by decide)), ?_⟩
  intro i p hp
  match i, hp with
  | 0, hp => cases hp; exact ⟨one_call hc, pt_well w⟩
  | (n + 1), hp => simp at hp
structure LR (w : World) (pg pr st cl pt ra rb rc rd i : Nat) (o : Option Addr) (c : Nat) (ps : List (RU × Value)) (wx : World) : Prop where
  len : ps.length = i
  all : ps.map (·.1) = List.replicate i ruW
  hg : wx.heap[pg]? = some (.cells #[.slice (some ⟨pt, 0, none⟩) 4 4, .slice o i c] 35 (0, 0))
  hr : wx.heap[pr]? = some (.cells #[.int .i64 0, .bool true, .slice (some ⟨st, 0, none⟩) 1 1] 64 (0, 0))
  hs : wx.heap[st]? = some (.cells #[.slice (some ⟨cl, 0, none⟩) 1 1, .int .i64 4, .slice none 0 0, .slice none 0 0, .slice none 0 0] 66 (0, 0))
  hc : wx.heap[cl]? = some (.cells #[.string ⟨#[111]⟩] 9 (0, 0))
  own : RuO (fun k => k ≠ pg) wx (pr + 1) (.slice o i c) ps
  m : Mk0 w wx pt ra rb rc rd
  ge : w.heap.size ≤ pg
  lt : pr < wx.heap.size
  bas : w.heap.size ≤ pr
theorem LR.step {w wx X w9 : World} {pg pr st cl pt ra rb rc rd i c c9 : Nat} {o o9 : Option Addr} {ps : List (RU × Value)} {news : List Value} (h : LR w pg pr st cl pt ra rb rc rd i o c ps wx)
    (hX : Below wx.heap.size wx X) (hown9 : w9.ownsRow (pr + 1) 64 3 (.slice o9 (i + 1) c9) (i + 1) (ps.flatMap three ++ news)) (hnews : news = three (ruW, .slice (some ⟨st, 0, none⟩) 1 1))
    (hg9 : X.grownBy w9 (Value.slice o i c).ownBlock) (hf9 : ∀ k, (Value.slice o9 (i + 1) c9).ownBlock = some k → (Value.slice o i c).ownBlock = some k ∨ X.heap.size ≤ k) :
    ∃ ps', LR w pg pr st cl pt ra rb rc rd (i + 1) o9 c9 ps' (w9.setCell ⟨pg, 1, none⟩ (.slice o9 (i + 1) c9)) := by
  subst hnews
  have hownX := h.own.moved hX
  have hrow := h.own.row
  have hrw : wx.ownsRow w.heap.size 64 3 (.slice o i c) ps.length (ps.flatMap three) := owns_base hrow (by have := h.bas; omega)
  have hN : (Value.slice o i c).ownBlock ≠ some pg := own_far hrow h.hg (by decide)
  have hpl := hp_lt h.hg
  have hp9 : w9.heap[pg]? = some (.cells #[.slice (some ⟨pt, 0, none⟩) 4 4, .slice o i c] 35 (0, 0)) := by
    rw [hg9.block pg (by have := hX.size; omega) (fun e => hN e.symm)]; exact bel_get hX h.hg
  have hN9 : (Value.slice o9 (i + 1) c9).ownBlock ≠ some pg := own_far hown9 hp9 (by decide)
  have hpush := hownX.push (w' := w9) (v' := .slice o9 (i + 1) c9) (p := (ruW, .slice (some ⟨st, 0, none⟩) 1 1)) (by rw [h.len]; exact hown9) hg9 hf9
    (kp_two (bel_get hX h.hs) (bel_get hX h.hc) ⟨type_far h.hs h.hg (by decide), own_far hrow h.hs (by decide)⟩ ⟨type_far h.hc h.hg (by decide), own_far hrow h.hc (by decide)⟩ fun w' => sts_one)
  refine ⟨ps ++ [(ruW, .slice (some ⟨st, 0, none⟩) 1 1)], by simp [h.len], by simp [h.all, List.replicate_succ'], by simp [World.setCell, Array.getElem?_modify, hp9], ?_, ?_, ?_, ?_, ?_, h.ge, ?_, h.bas⟩
  · exact kb _ h.hr hX hg9 (fun e => by have := (hrow.lt _ e).1; omega) (type_far h.hr h.hg (by decide))
  · exact kb _ h.hs hX hg9 (own_far hrow h.hs (by decide)) (type_far h.hs h.hg (by decide))
  · exact kb _ h.hc hX hg9 (own_far hrow h.hc (by decide)) (type_far h.hc h.hg (by decide))
  · exact hpush.ag ((Ag.refl _ _).setCell (fun h => h.elim (fun h => h rfl) hN9) _)
  · exact h.m.turn hrw hX hg9 h.hg (by decide) (by decide) (by decide) (by decide) h.ge
  · have := h.lt; have := hX.size; have := hg9.size; simp [World.setCell]; omega
theorem LR.start {w w2 : World} {pt ra rb rc rd : Nat} (h : Mk0 w w2 pt ra rb rc rd) : LR w w2.heap.size (w2.heap.size + 1) (w2.heap.size + 1 + 1 + 1) (w2.heap.size + 1 + 1) pt ra rb rc rd 0 none 0 [] ((((w2.alloc (.cells #[.slice (some ⟨pt, 0, none⟩) 4 4, .slice none 0 0] 35)).alloc
    (.cells #[.int .i64 0, .bool true, .slice (some ⟨w2.heap.size + 1 + 1 + 1, 0, none⟩) 1 1] 64)).alloc (.cells #[.string ⟨#[111]⟩] 9)).alloc (.cells #[.slice (some ⟨w2.heap.size + 1 + 1, 0, none⟩) 1 1, .int .i64 4, .slice none 0 0, .slice none 0 0, .slice none 0 0] 66)) := by
  have hal := allocs_heap [.cells #[.slice (some ⟨pt, 0, none⟩) 4 4, .slice none 0 0] 35, .cells #[.int .i64 0, .bool true, .slice (some ⟨w2.heap.size + 1 + 1 + 1, 0, none⟩) 1 1] 64, .cells #[.string ⟨#[111]⟩] 9, .cells #[.slice (some ⟨w2.heap.size + 1 + 1, 0, none⟩) 1 1, .int .i64 4, .slice none 0 0, .slice none 0 0, .slice none 0 0] 66] w2
  exact ⟨rfl, rfl, hal 0 (by simp), hal 1 (by simp), hal 3 (by simp), hal 2 (by simp), Own.nil, h.moved (bel_new (bel_new (bel_new (bel_new (Below.refl _ _) _) _) _) _), h.bel.size, by simp, by have := h.bel.size; omega⟩
structure LS (w : World) (pg pr pt ra rb rc rd i : Nat) (o : Option Addr) (c : Nat) (ps : List (ST × Value × Value × Value × Value)) (wx : World) : Prop where
  len : ps.length = i
  all : ps.map (·.1) = List.replicate i (stO ptE)
  hg : wx.heap[pg]? = some (.cells #[.slice (some ⟨pt, 0, none⟩) 4 4, .slice none 0 0] 35 (0, 0))
  hr : wx.heap[pr]? = some (.cells #[.int .i64 0, .bool true, .slice o i c] 64 (0, 0))
  own : StO (fun k => k ≠ pr ∧ k ≠ pg) wx w.heap.size (.slice o i c) ps
  m : Mk0 w wx pt ra rb rc rd
  gg : w.heap.size ≤ pg
  gr : w.heap.size ≤ pr
theorem LS.start {w w2 : World} {pt ra rb rc rd : Nat} (h : Mk0 w w2 pt ra rb rc rd) : LS w w2.heap.size (w2.heap.size + 1) pt ra rb rc rd 0 none 0 [] ((w2.alloc (.cells #[.slice (some ⟨pt, 0, none⟩) 4 4, .slice none 0 0] 35)).alloc
    (.cells #[.int .i64 0, .bool true, .slice none 0 0] 64)) := by
  have hal := allocs_heap [.cells #[.slice (some ⟨pt, 0, none⟩) 4 4, .slice none 0 0] 35, .cells #[.int .i64 0, .bool true, .slice none 0 0] 64] w2
  exact ⟨rfl, rfl, hal 0 (by simp), hal 1 (by simp), Own.nil, h.moved (bel_new (bel_new (Below.refl _ _) _) _), h.bel.size, by have := h.bel.size; omega⟩
theorem LS.step {w wx X w9 : World} {pg pr cl pt ra rb rc rd i c c9 : Nat} {o o9 : Option Addr} {ps : List (ST × Value × Value × Value × Value)} {news : List Value} (h : LS w pg pr pt ra rb rc rd i o c ps wx)
    (hX : Below wx.heap.size wx X) (hcl : X.heap[cl]? = some (.cells #[.string ⟨#[111]⟩] 9 (0, 0))) (hcg : wx.heap.size ≤ cl)
    (hown9 : w9.ownsRow w.heap.size 66 5 (.slice o9 (i + 1) c9) (i + 1) (ps.flatMap five ++ news)) (hnews : news = five (stO ptE, .slice (some ⟨cl, 0, none⟩) 1 1, .slice none 0 0, .slice none 0 0, .slice none 0 0))
    (hg9 : X.grownBy w9 (Value.slice o i c).ownBlock) (hf9 : ∀ k, (Value.slice o9 (i + 1) c9).ownBlock = some k → (Value.slice o i c).ownBlock = some k ∨ X.heap.size ≤ k) :
    ∃ ps', LS w pg pr pt ra rb rc rd (i + 1) o9 c9 ps' (w9.setCell ⟨pr, 2, none⟩ (.slice o9 (i + 1) c9)) := by
  subst hnews
  have hownX := h.own.moved hX
  have hrow := h.own.row
  have hN : (Value.slice o i c).ownBlock ≠ some pr := own_far hrow h.hr (by decide)
  have hpl := hp_lt h.hr
  have hgl := hp_lt h.hg
  have hp9 : w9.heap[pr]? = some (.cells #[.int .i64 0, .bool true, .slice o i c] 64 (0, 0)) := by
    rw [hg9.block pr (by have := hX.size; omega) (fun e => hN e.symm)]; exact bel_get hX h.hr
  have hN9 : (Value.slice o9 (i + 1) c9).ownBlock ≠ some pr := own_far hown9 hp9 (by decide)
  have hpush := hownX.push (w' := w9) (v' := .slice o9 (i + 1) c9) (p := (stO ptE, .slice (some ⟨cl, 0, none⟩) 1 1, .slice none 0 0, .slice none 0 0, .slice none 0 0)) (by rw [h.len]; exact hown9) hg9 hf9
    ((KP.block hcl ⟨⟨by omega, by omega⟩, fun e => by have := (hrow.lt _ e).2; omega⟩).mono fun w' h' => ⟨one_call h', pt_kind 1 w'⟩)
  refine ⟨ps ++ [(stO ptE, .slice (some ⟨cl, 0, none⟩) 1 1, .slice none 0 0, .slice none 0 0, .slice none 0 0)], by simp [h.len], by simp [h.all, List.replicate_succ'], ?_, by simp [World.setCell, Array.getElem?_modify, hp9], ?_, ?_, h.gg, h.gr⟩
  · exact kb _ h.hg hX hg9 (own_far hrow h.hg (by decide)) (type_far h.hg h.hr (by decide))
  · exact hpush.ag ((Ag.refl _ _).setCell (fun h => h.elim (fun h => h.1 rfl) hN9) _)
  · exact h.m.turn hrow hX hg9 h.hr (by decide) (by decide) (by decide) (by decide) h.gr
end Go.Proofs.YtbanmggkfpnalaaGreatDoor

namespace Go.Proofs.YtbanmggkfpnalaaGreatDoor
open Go.RowKit Ru

namespace PT
mutual
def deep : PT → Nat
  | .mk _ _ _ l => deeps l + 1
def deeps : List PT → Nat
  | [] => 0
  | e :: l => max (deep e) (deeps l)
end
theorem deep_mk (k : Int) (n e : List ByteArray) (l : List PT) : (mk k n e l).deep = deeps l + 1 := by rw [deep]
theorem deeps_nil : deeps [] = 0 := by rw [deeps]
theorem deeps_cons (e : PT) (l : List PT) : deeps (e :: l) = max e.deep (deeps l) := by rw [deeps]
theorem vis_ok : ∀ (N : Nat), (∀ e : PT, e.size ≤ N → ∀ n d, n + e.size ≤ 60 → e.deep + d ≤ 13 → e.vis n d = (true, n + e.size)) ∧
    (∀ l : List PT, sizes l ≤ N → ∀ n d, n + sizes l ≤ 60 → deeps l + d ≤ 13 → visL l n d = (true, n + sizes l)) := by
  intro N
  induction N with
  | zero =>
    refine ⟨fun e h => by have := e.size_pos; omega, fun l h n d hn hd => ?_⟩
    cases l with
    | nil => rw [visL_nil, sizes_nil]; rfl
    | cons e l => rw [sizes_cons] at h; have := e.size_pos; omega
  | succ N ih =>
    have key : ∀ e : PT, e.size ≤ N + 1 → ∀ n d, n + e.size ≤ 60 → e.deep + d ≤ 13 → e.vis n d = (true, n + e.size) := by
      intro e he n d hn hd
      cases e with
      | mk k ns es l =>
        rw [size_mk] at he hn ⊢
        rw [deep_mk] at hd
        rw [vis_eq, if_neg (by omega)]
        show visL l (n + 1) (d + 1) = _
        rw [ih.2 l (by omega) (n + 1) (d + 1) (by omega) (by omega)]
        congr 1; omega
    refine ⟨key, fun l => ?_⟩
    induction l with
    | nil => intro h n d _ _; rw [visL_nil, sizes_nil]; rfl
    | cons e l ihl =>
      intro h n d hn hd
      rw [sizes_cons] at h hn ⊢
      rw [deeps_cons] at hd
      rw [visL_cons, key e (by omega) n d (by omega) (by omega)]
      simp only [if_true]
      rw [ihl (by omega) (n + e.size) d (by omega) (by omega)]
      congr 1; omega
theorem fits_ok {e : PT} (hs : e.size ≤ 60) (hd : e.deep ≤ 12) : e.fitsB = true := by
  unfold fitsB; rw [(vis_ok e.size).1 e (Nat.le_refl _) 0 1 (by omega) (by omega)]
end PT
open PT
structure GP (T : List TK) (p : PT) : Prop where
  ok : patE T p = none
  fit : p.Fit
structure Nm (T : List TK) (kind : Int) (ns : List ByteArray) : Prop where
  ok : namesE T kind [] ns = none
  pos : 0 < ns.length
  few : ns.length ≤ 2
theorem orE_none {a b : Option Int} (ha : a = none) (hb : b = none) : orE a b = none := by rw [ha, hb]; rfl
theorem gp_tok {T : List TK} {ns : List ByteArray} (h : Nm T 0 ns) : GP T (.mk 2 ns [] []) := by
  refine ⟨?_, .mk 2 ns [] [] (by have := h.few; omega) (by decide) (by decide) (fun i p h => by simp at h)⟩
  rw [patE_eq, if_neg (by simp [shp, PT.kind, PT.names, PT.ends, PT.parts]; exact decide_eq_true h.pos)]
  exact orE_none (by simpa [nodeE, PT.kind, PT.names, PT.ends] using h.ok) (patEL_nil T)
theorem gp_flat {T : List TK} {k : Int} (h : k = 1 ∨ k = 4) : GP T (.mk k [] [] []) := by
  refine ⟨?_, .mk k [] [] [] (by decide) (by decide) (by decide) (fun i p h => by simp at h)⟩
  rw [patE_eq, if_neg (by rcases h with rfl | rfl <;> simp [shp, PT.kind, PT.names, PT.ends, PT.parts])]
  exact orE_none (by rcases h with rfl | rfl <;> simp [nodeE, PT.kind]) (patEL_nil T)
theorem patEL_one {T : List TK} {p : PT} (h : GP T p) : patEL T [p] = none := by rw [patEL_cons]; exact orE_none h.ok (patEL_nil T)
theorem gp_in {T : List TK} {ns es : List ByteArray} {p : PT} (hn : Nm T 1 ns) (he : Nm T 2 es) (hp : GP T p) : GP T (.mk 3 ns es [p]) := by
  refine ⟨?_, .mk 3 ns es [p] (by have := hn.few; omega) (by have := he.few; omega) (by simp) (fun i q h => by
    match i, h with
    | 0, h => cases h; exact hp.fit
    | (n + 1), h => simp at h)⟩
  rw [patE_eq, if_neg (by
    have h1 := hn.pos; have h2 := he.pos
    simp [shp, PT.kind, PT.names, PT.ends, PT.parts]
    exact ⟨decide_eq_true h1, decide_eq_true h2⟩)]
  exact orE_none (by simpa [nodeE, PT.kind, PT.names, PT.ends] using orE_none hn.ok he.ok) (patEL_one hp)
theorem gp_star {T : List TK} {p : PT} (hp : GP T p) : GP T (.mk 7 [] [] [p]) := by
  refine ⟨?_, .mk 7 [] [] [p] (by decide) (by decide) (by simp) (fun i q h => by
    match i, h with
    | 0, h => cases h; exact hp.fit
    | (n + 1), h => simp at h)⟩
  rw [patE_eq, if_neg (by simp [shp, PT.kind, PT.names, PT.ends, PT.parts])]
  exact orE_none (by simp [nodeE, PT.kind]) (patEL_one hp)
theorem gp_two {T : List TK} {k : Int} {p q : PT} (h : k = 5 ∨ k = 6) (hp : GP T p) (hq : GP T q) : GP T (.mk k [] [] [p, q]) := by
  refine ⟨?_, .mk k [] [] [p, q] (by decide) (by decide) (by simp) (fun i r h => by
    match i, h with
    | 0, h => cases h; exact hp.fit
    | 1, h => cases h; exact hq.fit
    | (n + 2), h => simp at h)⟩
  rw [patE_eq, if_neg (by rcases h with rfl | rfl <;> simp [shp, PT.kind, PT.names, PT.ends, PT.parts])]
  refine orE_none (by rcases h with rfl | rfl <;> simp [nodeE, PT.kind]) ?_
  show patEL T [p, q] = none
  rw [patEL_cons]; exact orE_none hp.ok (patEL_one hq)
def pickF (l : List ByteArray) (k : Int) : List ByteArray := if bits BinOp.and IntKind.i64 k 1 = 1 ∧ l.length = 2 then l else [l.getD ((IntKind.u64.wrap k).tmod (l.length : Int)).toNat ⟨#[]⟩]
def lastP (s : List PT) : PT := s.getLast?.getD (.mk 4 [] [] [])
def stepP (I C R : List ByteArray) (k : Int) (s : List PT) : List PT :=
  if ((IntKind.u64.wrap k).tmod 11).toNat < 3 ∨ s.length = 0 ∧ 5 < ((IntKind.u64.wrap k).tmod 11).toNat then s ++ [.mk 2 (pickF I (wrap64 (k.tdiv 11))) [] []]
  else if ((IntKind.u64.wrap k).tmod 11).toNat = 3 then s ++ [.mk 4 [] [] []]
  else if ((IntKind.u64.wrap k).tmod 11).toNat = 4 then s ++ [.mk 1 [] [] []]
  else if ((IntKind.u64.wrap k).tmod 11).toNat = 5 then s ++ [.mk 3 (pickF C (wrap64 (k.tdiv 11))) (pickF R (wrap64 (k.tdiv 13))) [.mk (if bits BinOp.and IntKind.i64 (wrap64 (k.tdiv 17)) 1 = 1 then 4 else 1) [] [] []]]
  else if ((IntKind.u64.wrap k).tmod 11).toNat = 6 ∨ s.length < 2 ∧ 7 < ((IntKind.u64.wrap k).tmod 11).toNat then s.dropLast ++ [.mk 7 [] [] [lastP s]]
  else if ((IntKind.u64.wrap k).tmod 11).toNat = 7 then s.dropLast ++ [.mk 3 (pickF C (wrap64 (k.tdiv 11))) (pickF R (wrap64 (k.tdiv 13))) [lastP s]]
  else s.dropLast.dropLast ++ [.mk (if ((IntKind.u64.wrap k).tmod 11).toNat < 10 then 5 else 6) [] [] [lastP s.dropLast, lastP s]]
structure Gh where
  l : List Int
  I : List ByteArray
  C : List ByteArray
  R : List ByteArray
def runP (G : Gh) : Nat → List PT
  | 0 => []
  | j + 1 => if j < G.l.length then stepP G.I G.C G.R (G.l.getD j 0) (runP G j) else runP G j
theorem runP_next {G : Gh} {j : Nat} (h : j < G.l.length) : runP G (j + 1) = stepP G.I G.C G.R (G.l.getD j 0) (runP G j) := if_pos h
theorem runP_stop {G : Gh} {j : Nat} (h : G.l.length ≤ j) : ∀ d, runP G (j + d) = runP G j
  | 0 => rfl
  | d + 1 => (if_neg (show ¬ j + d < G.l.length by omega)).trans (runP_stop h d)
def foldP : List PT → PT
  | [] => .mk 4 [] [] []
  | a :: r => r.foldl (fun p q => .mk 5 [] [] [p, q]) a
theorem foldP_snoc (s : List PT) (q : PT) (h : 0 < s.length) : foldP (s ++ [q]) = .mk 5 [] [] [foldP s, q] := by
  cases s with
  | nil => simp at h
  | cons a r => simp [foldP]
def patF (G : Gh) : PT := foldP (runP G 8)
theorem patF_at {G : Gh} {j : Nat} (hj : j ≤ 8) (h : G.l.length ≤ j ∨ j = 8) : patF G = foldP (runP G j) := by
  rcases h with h | rfl
  · unfold patF
    rw [show 8 = j + (8 - j) by omega, runP_stop h]
  · rfl
structure Stk (T : List TK) (G : Gh) (j : Nat) (s : List PT) : Prop where
  tr : s = runP G j
  len : s.length ≤ j
  good : ∀ p ∈ s, GP T p
  deep : ∀ p ∈ s, p.deep + s.length ≤ j + 2
  size : sizes s + s.length ≤ 3 * j
theorem sizes_append : ∀ (a b : List PT), sizes (a ++ b) = sizes a + sizes b := by
  intro a
  induction a with
  | nil => intro b; rw [sizes_nil]; simp
  | cons x a ih => intro b; rw [List.cons_append, sizes_cons, sizes_cons, ih]; omega
theorem Stk.nil (T : List TK) (G : Gh) : Stk T G 0 [] := ⟨rfl, by simp, fun p h => by simp at h, fun p h => by simp at h, by simp [sizes_nil]⟩
theorem Stk.push {T : List TK} {G : Gh} {j : Nat} {s : List PT} {p : PT} (h : Stk T G j s) (hp : GP T p) (hd : p.deep ≤ 2) (hs : p.size ≤ 2) (ht : s ++ [p] = runP G (j + 1)) : Stk T G (j + 1) (s ++ [p]) := by
  have := h.len
  refine ⟨ht, by simp; omega, fun q hq => ?_, fun q hq => ?_, by rw [sizes_append, sizes_cons, sizes_nil]; have := h.size; simp; omega⟩
  · rcases List.mem_append.1 hq with h1 | h1
    · exact h.good q h1
    · simp at h1; subst h1; exact hp
  · simp only [List.length_append, List.length_singleton]
    rcases List.mem_append.1 hq with h1 | h1
    · have := h.deep q h1; omega
    · simp at h1; subst h1; omega
theorem Stk.over {T : List TK} {G : Gh} {j : Nat} {s : List PT} {p q : PT} (h : Stk T G j (s ++ [p])) (hp : GP T q) (hd : q.deep = p.deep + 1) (hs : q.size = p.size + 1) (htr : s ++ [q] = runP G (j + 1)) : Stk T G (j + 1) (s ++ [q]) := by
  have hl := h.len; have hz := h.size
  simp only [List.length_append, List.length_singleton] at hl
  rw [sizes_append, sizes_cons, sizes_nil] at hz
  simp only [List.length_append, List.length_singleton] at hz
  refine ⟨htr, by simp; omega, fun r hr => ?_, fun r hr => ?_, by rw [sizes_append, sizes_cons, sizes_nil]; simp; omega⟩
  · rcases List.mem_append.1 hr with h1 | h1
    · exact h.good r (by simp [h1])
    · simp at h1; subst h1; exact hp
  · simp only [List.length_append, List.length_singleton]
    rcases List.mem_append.1 hr with h1 | h1
    · have := h.deep r (by simp [h1]); simp at this; omega
    · simp at h1; subst h1; have := h.deep p (by simp); simp at this; omega
theorem Stk.both {T : List TK} {G : Gh} {j : Nat} {s : List PT} {p q r : PT} (h : Stk T G j (s ++ [p, q])) (hp : GP T r) (hd : r.deep = max p.deep q.deep + 1) (hs : r.size = p.size + q.size + 1) (htr : s ++ [r] = runP G (j + 1)) : Stk T G (j + 1) (s ++ [r]) := by
  have hl := h.len; have hz := h.size
  simp only [List.length_append, List.length_cons, List.length_nil] at hl
  rw [sizes_append, sizes_cons, sizes_cons, sizes_nil] at hz
  simp only [List.length_append, List.length_cons, List.length_nil] at hz
  refine ⟨htr, by simp; omega, fun t ht => ?_, fun t ht => ?_, by rw [sizes_append, sizes_cons, sizes_nil]; simp; omega⟩
  · rcases List.mem_append.1 ht with h1 | h1
    · exact h.good t (by simp [h1])
    · simp at h1; subst h1; exact hp
  · simp only [List.length_append, List.length_singleton]
    rcases List.mem_append.1 ht with h1 | h1
    · have := h.deep t (by simp [h1]); simp at this; omega
    · simp at h1; subst h1
      have h2 := h.deep p (by simp); have h3 := h.deep q (by simp); simp at h2 h3; omega
structure Fld (T : List TK) (j : Nat) (s : List PT) (i : Nat) (p : PT) : Prop where
  tr : p = foldP (s.take i)
  good : GP T p
  deep : p.deep + s.length ≤ j + 2 + (i - 1)
  size : p.size ≤ sizes (s.take i) + (i - 1)
theorem Fld.start {T : List TK} {G : Gh} {j : Nat} {s : List PT} {p : PT} (h : Stk T G j s) (hp : s[0]? = some p) : Fld T j s 1 p := by
  cases s with
  | nil => simp at hp
  | cons a s =>
    simp at hp; subst hp
    exact ⟨by simp [foldP], h.good a (by simp), by have := h.deep a (by simp); omega, by simp [sizes_cons, sizes_nil]⟩
theorem take_next {s : List PT} {i : Nat} {q : PT} (h : s[i]? = some q) : s.take (i + 1) = s.take i ++ [q] := by
  rw [List.take_add_one, h]; rfl
theorem Fld.next {T : List TK} {G : Gh} {j i : Nat} {s : List PT} {p q : PT} (h : Stk T G j s) (f : Fld T j s i p) (hi : 1 ≤ i) (hq : s[i]? = some q) : Fld T j s (i + 1) (.mk 5 [] [] [p, q]) := by
  have h1 := h.deep q (List.mem_of_getElem? hq)
  have h2 := f.deep
  have h3 := f.size
  refine ⟨by rw [take_next hq, foldP_snoc _ _ (by have := (List.getElem?_eq_some_iff.1 hq).1; rw [List.length_take]; omega), f.tr], gp_two (.inl rfl) f.good (h.good q (List.mem_of_getElem? hq)), ?_, ?_⟩
  · rw [deep_mk, deeps_cons, deeps_cons, deeps_nil]; omega
  · rw [size_mk, sizes_cons, sizes_cons, sizes_nil, take_next hq, sizes_append, sizes_cons, sizes_nil]; omega
structure PGood (T : List TK) (p : PT) : Prop where
  ok : patE T p = none
  fits : p.fitsB = true
  fit : p.Fit
theorem Fld.full {T : List TK} {G : Gh} {j : Nat} {s : List PT} {p : PT} (h : Stk T G j s) (hj : j ≤ 8) (he : G.l.length ≤ j ∨ j = 8) (f : Fld T j s s.length p) : p = patF G := by
  rw [patF_at hj he, ← h.tr, f.tr, List.take_length]
theorem Fld.done {T : List TK} {G : Gh} {j : Nat} {s : List PT} {p : PT} (h : Stk T G j s) (hj : j ≤ 8) (f : Fld T j s s.length p) : PGood T p := by
  have h1 := f.deep; have h2 := f.size; have h3 := h.size; have h4 := h.len
  rw [List.take_length] at h2
  exact ⟨f.good.ok, fits_ok (by omega) (by omega), f.good.fit⟩
theorem pgood_well (T : List TK) : PGood T (.mk 4 [] [] []) := ⟨(gp_flat (.inr rfl)).ok, fits_ok (by rw [size_mk, sizes_nil]; omega) (by rw [deep_mk, deeps_nil]; omega), (gp_flat (T := T) (.inr rfl)).fit⟩
end Go.Proofs.YtbanmggkfpnalaaGreatDoor

namespace Go.Proofs.YtbanmggkfpnalaaGreatDoor
open Go.RowKit Ru

theorem pick_idx (k : Int) (n : Nat) (h : 0 < n) : ∃ i : Nat, i < n ∧ (n ≤ 1048576 → (IntKind.u64.wrap k).tmod (n : Int) = (i : Int)) := by
  by_cases hn : n ≤ 1048576
  · obtain ⟨i, hi, e⟩ := u64_mod' k n h hn; exact ⟨i, hi, fun _ => e⟩
  · exact ⟨0, h, fun h' => absurd h' hn⟩
set_option maxHeartbeats 8000000 in
set_option maxRecDepth 100000 in
theorem pick_one (b off n c i : Nat) (k : Int) (w : World) (hn1 : 1 ≤ n) (hn : n ≤ 2) (hc : n ≤ c) (hi : i < n) (ei : (IntKind.u64.wrap k).tmod (n : Int) = (i : Int)) (hp : bits BinOp.and IntKind.i64 k 1 = 1 → n = 1) :
    Calls Tryz.prog 45 #[.slice (some ⟨b, off, none⟩) n c, .int .i64 k] w fun e w' => e = .returned (.slice (some ⟨b, off + i, none⟩) 1 (c - i)) ∧ w' = w := by
  have ew : IntKind.u64.wrap (n : Int) = (n : Int) := IntWalk.u64_in _ (by omega)
  have ei2 : IntKind.i64.wrap (i : Int) = (i : Int) := IntWalk.i64_in _ (by omega)
  have hn0 : ¬ (n : Int) = 0 := by omega
  have hd0 : decide ((n : Int) = 0) = false := by simp; omega
  by_cases hq : bits BinOp.and IntKind.i64 k 1 = 1
  · have hn9 : decide ((1 : Int) < (n : Int)) = false := by have := hp hq; simp; omega
    clear hp
    go_enter Tryz.func45, Tryz.ntmps45
    go_wp2_with fail
    go_ret
    exact ⟨rfl, rfl⟩
  · clear hp
    have hb : (bits BinOp.and IntKind.i64 k 1 == 1) = false := by simpa using hq
    go_enter Tryz.func45, Tryz.ntmps45
    go_wp2_with fail
    go_ret
    exact ⟨rfl, rfl⟩
set_option maxHeartbeats 8000000 in
set_option maxRecDepth 100000 in
theorem pick_whole (b off n c i : Nat) (k : Int) (w : World) (hn1 : 2 ≤ n) (hn : n ≤ 2) (hc : n ≤ c) (hi : i < n) (ei : (IntKind.u64.wrap k).tmod (n : Int) = (i : Int)) (hq : bits BinOp.and IntKind.i64 k 1 = 1) :
    Calls Tryz.prog 45 #[.slice (some ⟨b, off, none⟩) n c, .int .i64 k] w fun e w' => e = .returned (.slice (some ⟨b, off, none⟩) n c) ∧ w' = w := by
  have ew : IntKind.u64.wrap (n : Int) = (n : Int) := IntWalk.u64_in _ (by omega)
  have ei2 : IntKind.i64.wrap (i : Int) = (i : Int) := IntWalk.i64_in _ (by omega)
  have hn0 : ¬ (n : Int) = 0 := by omega
  have hd0 : decide ((n : Int) = 0) = false := by simp; omega
  have hn9 : decide ((1 : Int) < (n : Int)) = true := by simp; omega
  go_enter Tryz.func45, Tryz.ntmps45
  go_wp2_with fail
  go_ret
  exact ⟨rfl, rfl⟩
def Sub (ns l : List ByteArray) : Prop := ns = l ∨ ∃ x ∈ l, ns = [x]
theorem pick_any (l : List ByteArray) (lv : Value) (k : Int) (w : World) (hr : Row w lv l.length (strs l)) (h1 : 1 ≤ l.length) (h2 : l.length ≤ 2) :
    ∃ (o : Option Addr) (n c : Nat) (ns : List ByteArray), ns.length = n ∧ (∀ w', Row w' lv l.length (strs l) → Row w' (.slice o n c) n (strs ns)) ∧ (Sub ns l ∧ ns = pickF l k) ∧ ∀ w', Calls Tryz.prog 45 #[lv, .int .i64 k] w' fun e w'' => e = .returned (.slice o n c) ∧ w'' = w' := by
  have hr0 := hr
  obtain ⟨o, c, rfl, hc, hm, hrr⟩ := hr
  rcases hrr with ⟨h0, -⟩ | ⟨b, off, rfl, hlt, hcell⟩
  · omega
  · obtain ⟨i, hi, ei⟩ := pick_idx k l.length (by omega)
    by_cases hq : bits BinOp.and IntKind.i64 k 1 = 1 ∧ l.length = 2
    · exact ⟨_, _, _, l, rfl, fun w' h => h, ⟨.inl rfl, by unfold pickF; rw [if_pos hq]⟩, fun w' => pick_whole b off _ c i k w' (by omega) h2 hc hi (ei (by omega)) hq.1⟩
    · refine ⟨_, 1, _, [l[i]], rfl, ?_, ⟨.inr ⟨_, List.getElem_mem hi, rfl⟩, by unfold pickF; rw [if_neg hq, ei (by omega)]; simp [List.getD, hi]⟩, fun w' => pick_one b off _ c i k w' h1 h2 hc hi (ei (by omega)) (fun h => by
        have : ¬ l.length = 2 := fun e => hq ⟨h, e⟩
        omega)⟩
      rintro w' ⟨o', c', e, hc', hm', hrr'⟩
      cases e
      rcases hrr' with ⟨h0, -⟩ | ⟨b', off', e', hlt', hcell'⟩
      · omega
      cases e'
      refine ⟨_, _, rfl, by omega, by omega, .inr ⟨b, off + i, rfl, hlt', ?_⟩⟩
      intro j u hj
      match j, hj with
      | 0, hj =>
        simp [strs] at hj
        subst hj
        exact hcell' i _ (strs_get (by simp))
      | (n + 1), hj => simp [strs] at hj
def SZ (w : World) (k : Nat) : Prop := w.heap.size ≤ k ∨ ∃ cs f, w.heap[k]? = some (.cells cs 9 f)
theorem pick_kp (l : List ByteArray) (lv : Value) (k : Int) (w : World) {S : Nat → Prop} (hr : KP S w (fun w' => Row w' lv l.length (strs l))) (h1 : 1 ≤ l.length) (h2 : l.length ≤ 2) :
    ∃ (o : Option Addr) (n c : Nat) (ns : List ByteArray), ns.length = n ∧ KP S w (fun w' => Row w' (.slice o n c) n (strs ns)) ∧ (Sub ns l ∧ ns = pickF l k) ∧ ∀ w', Calls Tryz.prog 45 #[lv, .int .i64 k] w' fun e w'' => e = .returned (.slice o n c) ∧ w'' = w' := by
  obtain ⟨o, n, c, ns, a, b, d, e⟩ := pick_any l lv k w hr.here h1 h2
  exact ⟨o, n, c, ns, a, hr.mono b, d, e⟩
end Go.Proofs.YtbanmggkfpnalaaGreatDoor

namespace Go.Proofs.YtbanmggkfpnalaaGreatDoor
open Go Go.RowKit

section
variable {P : Program} {ops : Array Oper} {Q : Exit → Act → World → Prop} {md : Region.Mode} {S : World → Prop}
def YieldsC (P : Program) (ops : Array Oper) (S : World → Prop) (o : Oper) (v : Value) (a : Act) : Prop :=
  Region.wanted o (yielded ops a.tmps) = true ∧ ∀ w, S w → ∃ f args, (execOp a.eval o).run P w = .ok (.enter f args) w ∧ Calls P f args w (fun e w' => e = .returned v ∧ w' = w)
theorem YieldsC.wpOp {i : Nat} {o : Oper} {v : Value} {a : Act} (hi : ops[i]? = some o) (hy : YieldsC P ops S o v a)
    {K : Act → World → Prop} {w : World} (hS : S w) (h : K (a.put o.dst v) w) : wpOp P ops Q i K a w := by
  unfold Go.wpOp
  obtain ⟨f, args, hr, hc⟩ := hy.2 w hS
  simp only [hi, hy.1, if_true, Oper.wp, hr, Oper.upon]
  refine .inl (hc.mono ?_)
  rintro e w' ⟨rfl, rfl⟩
  exact h
theorem YieldsC.of_same {o : Oper} {v : Value} {a a' : Act} (hy : YieldsC P ops S o v a) (he : execOp a'.eval o = execOp a.eval o)
    (hw : Region.wanted o (yielded ops a'.tmps) = Region.wanted o (yielded ops a.tmps)) : YieldsC P ops S o v a' := by
  unfold YieldsC at *
  rw [he, hw]
  exact hy
theorem wpOp_putC {j : Nat} {oi oj : Oper} {v : Value} (hj : ops[j]? = some oj) (hap : oi.apart ops oj = true)
    (hsi : ∀ cs b, oi.op ≠ .select cs b) (hsj : ∀ cs b, oj.op ≠ .select cs b)
    (hQ : ∀ c a w, Q (.panic c) (a.put oi.dst v) w → Q (.panic c) a w) {K : Act → World → Prop} {a : Act} {w : World}
    (hy : YieldsC P ops S oi v a) (h : wpOp P ops Q j K (a.put oi.dst v) w) :
    wpOp P ops Q j (fun a' w' => YieldsC P ops S oi v a' ∧ K (a'.put oi.dst v) w') a w := by
  obtain ⟨h1, h2, h3⟩ := Oper.apart_spec hap
  have keep : ∀ (a : Act), YieldsC P ops S oi v a → ∀ u, YieldsC P ops S oi v (a.put oj.dst u) := fun a hy u =>
    hy.of_same (execOp_put oi hsi a oj.dst u h3) (wanted_put oi a oj.dst u h3)
  have keepD : ∀ d, YieldsC P ops S oi v { a with defers := d :: a.defers } := fun d => hy.of_same rfl rfl
  unfold Go.wpOp at *
  simp only [hj] at *
  rw [wanted_put oj a oi.dst v h1] at h
  split
  · rename_i hw
    simp only [hw, if_true] at h
    rcases h with h | ⟨hasks, hlets⟩
    case inr => exact .inr ⟨by unfold Oper.asks at *; rw [execOp_put oj hsj a oi.dst v h1] at hasks; exact hasks, hlets⟩
    refine .inl ?_
    unfold Oper.wp at *
    rw [execOp_put oj hsj a oi.dst v h1] at h
    generalize (execOp a.eval oj).run P w = r at *
    cases r with
    | ok n w' =>
      cases n <;> simp only [Oper.upon] at h ⊢
      case value u => exact ⟨keep a hy u, by rw [← Act.put_comm a v u h2]; exact h⟩
      case skip => exact ⟨keep a hy _, by rw [← Act.put_comm a v undef h2]; exact h⟩
      case defer d =>
        refine ⟨keep _ (keepD d) _, ?_⟩
        rw [← Act.put_comm _ v undef h2, ← Act.put_defers]
        exact h
      case enter f args =>
        refine Calls.mono h fun e w'' he => ?_
        cases e with
        | returned u => exact ⟨keep a hy u, by rw [← Act.put_comm a v u h2]; exact he⟩
        | panicked c => exact hQ _ _ _ he
        | outgrown => exact he
      case row row args => exact Rows.mono h fun u w'' he => ⟨keep a hy u, by rw [← Act.put_comm a v u h2]; exact he⟩
    | halt x w' =>
      cases x <;> simp only [Oper.upon] at h ⊢
      case panic u => exact hQ _ _ _ h
  · rename_i hw
    simp only [hw] at h
    exact ⟨keep a hy _, by rw [← Act.put_comm a v undef h2]; exact h⟩
theorem wpAnyH_firstC {i : Nat} {oi : Oper} {v : Value} (hi : ops[i]? = some oi) (hsel : ∀ (j : Nat) (o : Oper) cs b, ops[j]? = some o → o.op ≠ .select cs b)
    (hQ : ∀ c a w, Q (.panic c) (a.put oi.dst v) w → Q (.panic c) a w) :
    ∀ (fuel : Nat) (listed : Array Bool) (a : Act) (w : World),
      (∀ j oj, ops[j]? = some oj → j ≠ i → listed.getD j true = false → (∀ e ∈ oj.after, Region.binds md e = true → e.on ≠ i) → oi.apart ops oj = true) →
      i ∈ Region.ready md ops listed → YieldsC P ops S oi v a → S w →
      wpAnyH P md ops Q S fuel (listed.setIfInBounds i true) (a.put oi.dst v) w → wpAnyH P md ops Q S (fuel + 1) listed a w := by
  intro fuel
  induction fuel with
  | zero =>
    intro listed a w _ hr hy hS H
    refine ⟨fun h => (by rw [h] at hr; cases hr), fun j hj => ?_⟩
    by_cases hji : j = i
    · subst hji; exact hy.wpOp hi hS ⟨hS, H⟩
    · have := ready_mono hj hji
      rw [H.1] at this
      cases this
  | succ fuel ih =>
    intro listed a w hfree hr hy hS H
    refine ⟨fun h => (by rw [h] at hr; cases hr), fun j hj => ?_⟩
    by_cases hji : j = i
    · subst hji; exact hy.wpOp hi hS ⟨hS, H⟩
    · have h1 := H.2 j (ready_mono hj hji)
      obtain ⟨hjun, oj, hoj, hall⟩ := mem_ready.1 hj
      have hnot : ∀ e ∈ oj.after, Region.binds md e = true → e.on ≠ i := fun e he hb heq => by
        have h1 := hall e he hb
        have h0 := (mem_ready.1 hr).1
        rw [heq] at h1
        rcases Nat.lt_or_ge i listed.size with h' | h'
        · simp [h'] at h0 h1; rw [h0] at h1; cases h1
        · simp [Array.getElem?_eq_none h'] at h1
      have h2 := wpOp_putC hoj (hfree j oj hoj hji hjun hnot) (fun cs b => hsel i oi cs b hi) (fun cs b => hsel j oj cs b hoj) hQ hy h1
      have hfree' : ∀ k ok, ops[k]? = some ok → k ≠ i → (listed.setIfInBounds j true).getD k true = false →
          (∀ e ∈ ok.after, Region.binds md e = true → e.on ≠ i) → oi.apart ops ok = true := fun k ok hk hki hun hno => by
        refine hfree k ok hk hki ?_ hno
        by_cases hjk : j = k
        · subst hjk; exact hjun
        · rw [getD_set_ne true hjk] at hun; exact hun
      refine wpOp_mono (fun a' w' h3 => ⟨h3.2.1, ih (listed.setIfInBounds j true) a' w' hfree' (ready_mono hr (Ne.symm hji)) h3.1 h3.2.1 ?_⟩) h2
      rw [Array.setIfInBounds_comm _ _ hji]
      exact h3.2.2
theorem wpAnyH_takeC {i : Nat} {oi : Oper} {v : Value} {fuel : Nat} {listed : Array Bool} {a : Act} {w : World} (hi : ops[i]? = some oi)
    (hs : Region.noSelect ops = true) (hf : Region.free md ops listed i = true) (hr : (Region.ready md ops listed).contains i = true)
    (hQ : ∀ c a w, Q (.panic c) (a.put oi.dst v) w → Q (.panic c) a w) (hy : YieldsC P ops S oi v a) (hS : S w)
    (h : wpAnyH P md ops Q S fuel (listed.setIfInBounds i true) (a.put oi.dst v) w) : wpAnyH P md ops Q S (fuel + 1) listed a w :=
  wpAnyH_firstC hi (Region.noSelect_spec hs) hQ fuel listed a w (Region.free_spec hi hf) (by simpa using hr) hy hS h
end
end Go.Proofs.YtbanmggkfpnalaaGreatDoor
