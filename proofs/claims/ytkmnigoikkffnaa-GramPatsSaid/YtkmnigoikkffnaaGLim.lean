/- gobolaw11.GramLimits. -/
import Derived.Test.YtkmnigoikkffnaaGOwn
set_option linter.unusedVariables false
set_option linter.unusedSimpArgs false
namespace Go.Proofs.Ytkmnigoikkffnaa
open Go.RowKit Ru

theorem u64_mod' (a : Int) (m : Nat) (hm : 0 < m) (hm2 : m ≤ 1048576) : ∃ i : Nat, i < m ∧ (IntKind.u64.wrap a).tmod (m : Int) = (i : Int) := by
  have h0 : 0 ≤ IntKind.u64.wrap a := by unfold IntKind.wrap; simp [IntKind.bits, IntKind.signed]; omega
  have h1 := Int.tmod_nonneg (m : Int) h0
  have h2 := Int.tmod_lt_of_pos (IntKind.u64.wrap a) (show (0 : Int) < (m : Int) by omega)
  exact ⟨((IntKind.u64.wrap a).tmod (m : Int)).toNat, by omega, by omega⟩
def digs : ByteArray := ⟨#[48, 49, 50, 51, 52, 53, 54, 55, 56, 57, 97, 98, 99, 100, 101, 102, 103, 104, 105, 106]⟩
def tkI (i : Nat) : TK := ⟨⟨#[116]⟩ ++ digs.extract i (i + 1), 0, 0, .mk 2 [(120, 120)] []⟩
def tks : Nat → List TK
  | 0 => []
  | n + 1 => tks n ++ [tkI (4 + n)]
/-- a row's block is not a block of another type -/
theorem own_far {w : World} {base size n p : Nat} {e t : TypeId} {v : Value} {xs : List Value} {cs : Array Value} {fr : Nat × Nat} (h : w.ownsRow base e size v n xs) (hp : w.heap[p]? = some (.cells cs t fr)) (ht : e ≠ t) : v.ownBlock ≠ some p := by
  rcases h.2 with ⟨rfl, -⟩ | ⟨g, cap, cur, rfl, hb, hgg, rest⟩
  · simp [Value.ownBlock]
  · intro hk
    simp [Value.ownBlock] at hk
    subst hk
    rw [hgg] at hp
    exact ht (by cases hp; rfl)
/-- g, of so many tokens, in memory -/
def LM (w : World) (pg i j : Nat) (wx : World) : Prop := ∃ (o : Option Addr) (c : Nat) (ps : List (TK × Value × Value)), i = 4 + j ∧ ps.length = i ∧ ps.map (·.1) = T0 ++ tks j ∧ wx.heap[pg]? = some (.cells #[.slice o i c, .slice none 0 0] 25 (0, 0)) ∧
  TkO (fun k => k ≠ pg) wx w.heap.size (.slice o i c) ps ∧ Below w.heap.size w wx ∧ w.heap.size ≤ pg
theorem al_two (w : World) (a b : Obj) : ((w.alloc a).alloc b).heap[w.heap.size + 1]? = some b := by
  have := heap_alloc_new (w.alloc a) b
  simpa using this
theorem LM.start {w w2 : World} {pt ra rb rc rd : Nat} {g : Obj} (h : Mk0 w w2 pt ra rb rc rd) : LM w w2.heap.size 4 0 ((w2.alloc (.cells #[.slice (some ⟨pt, 0, none⟩) 4 4, .slice none 0 0] 25)).alloc g) :=
  ⟨_, _, ps0 ra rb rc rd, rfl, rfl, by rw [ps0_tok]; rfl, by rw [Below.heap_alloc _ _ _ (by simp)]; exact heap_alloc_new _ _,
   (h.tko (fun k hk => by omega)).moved (bel_new (bel_new (Below.refl _ _) _) _), bel_then h.bel (bel_new (bel_new (Below.refl _ _) _) _), h.bel.size⟩
theorem LM.step {w wx X w9 : World} {pg i j c c9 q : Nat} {o o9 : Option Addr} {ps : List (TK × Value × Value)} {news : List Value} (hij : i = 4 + j) (hpl : ps.length = i) (hps : ps.map (·.1) = T0 ++ tks j)
    (hpg : wx.heap[pg]? = some (.cells #[.slice o i c, .slice none 0 0] 25 (0, 0))) (hown : TkO (fun k => k ≠ pg) wx w.heap.size (.slice o i c) ps) (hbel : Below w.heap.size w wx) (hge : w.heap.size ≤ pg)
    (hX : Below wx.heap.size wx X) (hq : X.heap[q]? = some (.cells #[.int .i32 120, .int .i32 120] 82 (0, 0))) (hqg : wx.heap.size ≤ q)
    (hown9 : w9.ownsRow w.heap.size 55 6 (.slice o9 (i + 1) c9) (i + 1) (ps.flatMap six ++ news)) (hnews : news = six (tkI i, .slice (some ⟨q, 0, none⟩) 1 1, .slice none 0 0))
    (hg9 : X.grownBy w9 (Value.slice o i c).ownBlock) (hf9 : ∀ k, (Value.slice o9 (i + 1) c9).ownBlock = some k → (Value.slice o i c).ownBlock = some k ∨ X.heap.size ≤ k) (hb9 : Below w.heap.size X w9) :
    LM w pg (i + 1) (j + 1) (w9.setCell ⟨pg, 0, none⟩ (.slice o9 (i + 1) c9)) := by
  subst hnews
  have hlt := hown.row.lt
  have hpl' := hp_lt hpg
  have hownX := hown.moved hX
  have hN : (Value.slice o i c).ownBlock ≠ some pg := own_far hown.row hpg (by decide)
  have hp9 : w9.heap[pg]? = some (.cells #[.slice o i c, .slice none 0 0] 25 (0, 0)) := by
    rw [hg9.block pg (by have := hX.size; omega) (fun e => hN e.symm)]; exact bel_get hX hpg
  have hN9 : (Value.slice o9 (i + 1) c9).ownBlock ≠ some pg := own_far hown9 hp9 (by decide)
  have hpush := hownX.push (w' := w9) (v' := .slice o9 (i + 1) c9) (p := (tkI i, .slice (some ⟨q, 0, none⟩) 1 1, .slice none 0 0)) (by rw [hpl]; exact hown9) hg9 hf9
    ((KP.block hq ⟨by omega, fun e => by have := (hlt q e).2; omega⟩).mono fun w2 h2 => re_set [(120, 120)] 1 rfl (by decide) h2)
  refine ⟨o9, c9, ps ++ [(tkI i, .slice (some ⟨q, 0, none⟩) 1 1, .slice none 0 0)], by omega, by simp [hpl], by simp [hps, tks, hij], by simp [World.setCell, Array.getElem?_modify, hp9], ?_, ?_, hge⟩
  · refine hpush.ag ((Ag.refl _ _).setCell ?_ _)
    exact fun h => h.elim (fun h => h rfl) hN9
  · exact ((hbel.trans (hX.mono hbel.size)).trans hb9).setCell hge _
theorem tfit_mem {l : List TK} : TFit l ↔ ∀ t ∈ l, t.name.size ≤ 1000 ∧ t.re.Fit :=
  ⟨fun h t ht => by obtain ⟨i, hi⟩ := List.mem_iff_getElem?.1 ht; exact h i t hi, fun h i t hi => h t (List.mem_of_getElem? hi)⟩
theorem tks_fit : ∀ j, TFit (T0 ++ tks j) := by
  intro j
  rw [tfit_mem]
  intro t ht
  rcases List.mem_append.1 ht with h | h
  · exact tfit_mem.1 T0_fit t h
  · induction j with
    | zero => simp [tks] at h
    | succ j ih =>
      simp only [tks, List.mem_append, List.mem_singleton] at h
      rcases h with h | rfl
      · exact ih (List.mem_append_right _ h) h
      · have h1 : (⟨#[116]⟩ : ByteArray).size = 1 := rfl
        have h2 : digs.size = 20 := rfl
        exact ⟨by simp [tkI, h1, h2]; omega, re_fit (by unfold i32s; decide) (by decide)⟩
theorem tks_len (j : Nat) : (T0 ++ tks j).length = 4 + j := by
  induction j with
  | zero => rfl
  | succ j ih => simp only [tks, List.length_append, List.length_singleton] at *; omega
theorem chk_t0 : chkE (T0 ++ tks 10) [] = (0, 0) := by kernel_rfl
theorem chk_t1 : chkE (T0 ++ tks 11) [] = (0, 0) := by kernel_rfl
theorem chk_t2 : chkE (T0 ++ tks 12) [] = (0, 0) := by kernel_rfl
theorem chk_t3 : chkE (T0 ++ tks 13) [] = (6, 0) := by kernel_rfl
theorem chk_ts {k : Nat} (h : k ≤ 2) : chkE (T0 ++ tks (10 + k)) [] = (0, 0) := by
  obtain rfl | rfl | rfl : k = 0 ∨ k = 1 ∨ k = 2 := by omega
  · exact chk_t0
  · exact chk_t1
  · exact chk_t2
theorem row_new {w : World} {e : TypeId} {g size : Nat} {cs : Array Value} (hs : cs.size = size) (hg : g = w.heap.size) : Row (w.alloc (.cells cs e)) (.slice (some ⟨g, 0, none⟩) 1 1) 1 cs.toList := by
  subst hg; exact Row.owned (row_block (n := 1) (size := size) (heap_alloc_new w _) (by simpa using hs) (by decide))
theorem infoRule : ∃ i, Try.prog.info? 38 = some i ∧ i.zero = some (.agg #[.int .i64 0, .bool false, .slice none 0 0]) ∧ i.size = 3 ∧ i.bytes = 40 := info_parts (by kernel_rfl)
theorem infoStep : ∃ i, Try.prog.info? 45 = some i ∧ i.zero = some (.agg #[.slice none 0 0, .int .i64 0, .slice none 0 0, .slice none 0 0, .slice none 0 0]) ∧ i.size = 5 ∧ i.bytes = 104 := info_parts (by kernel_rfl)
theorem type_far {w : World} {p q : Nat} {cs ds : Array Value} {t u : TypeId} {f g : Nat × Nat} (hp : w.heap[p]? = some (.cells cs t f)) (hq : w.heap[q]? = some (.cells ds u g)) (h : t ≠ u) : p ≠ q := by
  intro e; subst e; rw [hp] at hq; exact h (by cases hq; rfl)
theorem kb {wx X w9 : World} {pg n q : Nat} {row : Option Nat} {o : Obj} (v : Value) (h : wx.heap[q]? = some o) (hX : Below wx.heap.size wx X) (hg : X.grownBy w9 row) (hr : row ≠ some q) (hq : q ≠ pg) : (w9.setCell ⟨pg, n, none⟩ v).heap[q]? = some o := by
  have := hp_lt h
  rw [Below.heap_setCell _ _ _ _ (by simpa using hq), hg.block q (by have := hX.size; omega) (fun e => hr e.symm)]
  exact bel_get hX h
theorem Mk0.turn {w wx X w9 : World} {pt ra rb rc rd pg n size m : Nat} {e : TypeId} {v u : Value} {xs : List Value} (h : Mk0 w wx pt ra rb rc rd) (hown : wx.ownsRow w.heap.size e size v m xs) (hX : Below wx.heap.size wx X) (hg : X.grownBy w9 v.ownBlock)
    {cs : Array Value} {t : TypeId} {f : Nat × Nat} (hpg : wx.heap[pg]? = some (.cells cs t f)) (ht1 : 55 ≠ t) (ht2 : 82 ≠ t) (he1 : e ≠ 55) (he2 : e ≠ 82) (hge : w.heap.size ≤ pg) : Mk0 w (w9.setCell ⟨pg, n, none⟩ u) pt ra rb rc rd := by
  have hb : Below w.heap.size w w9 := (h.bel.trans (hX.mono h.bel.size)).grown hg (by have := h.bel.size; have := hX.size; omega) (fun k hk => (hown.lt k hk).1)
  exact ⟨hb.setCell hge _, h.ge, kb _ h.ht hX hg (own_far hown h.ht he1) (type_far h.ht hpg ht1), kb _ h.ha hX hg (own_far hown h.ha he2) (type_far h.ha hpg ht2), kb _ h.hb hX hg (own_far hown h.hb he2) (type_far h.hb hpg ht2), kb _ h.hc hX hg (own_far hown h.hc he2) (type_far h.hc hpg ht2), kb _ h.hd hX hg (own_far hown h.hd he2) (type_far h.hd hpg ht2)⟩
theorem kp_two {S : Nat → Prop} {w : World} {a b : Nat} {o p : Obj} {F : World → Prop} (ha : w.heap[a]? = some o) (hb : w.heap[b]? = some p) (hSa : S a) (hSb : S b) (hF : ∀ w', w'.heap[a]? = some o → w'.heap[b]? = some p → F w') : KP S w F :=
  fun w' h' => hF w' (KP.block ha hSa w' h') (KP.block hb hSb w' h')
def ptE : PT := .mk 1 [] [] []
def stO (p : PT) : ST := ⟨[⟨#[111]⟩], p⟩
def ruW : RU := ⟨0, true, [stO ptWell]⟩
theorem pt_kind (k : Int) (w : World) : PtIs w (.mk k [] [] []) (.slice none 0 0) (.slice none 0 0) (.slice none 0 0) :=
  .mk k [] [] [] _ _ _ [] (Row.nil w) (Row.nil w) (Row.nil w) rfl (fun i c p h => by simp at h) (fun i c p h => by simp at h)
theorem ptE_fit : ptE.Fit := .mk 1 [] [] [] (by decide) (by decide) (by decide) (fun i p h => by simp at h)
theorem one_call {w : World} {cl : Nat} (h : w.heap[cl]? = some (.cells #[.string ⟨#[111]⟩] 9 (0, 0))) : Row w (.slice (some ⟨cl, 0, none⟩) 1 1) 1 (strs [⟨#[111]⟩]) :=
  Row.owned (row_block (n := 1) (size := 1) h rfl (by decide))
theorem sts_one {w : World} {st cl : Nat} (hs : w.heap[st]? = some (.cells #[.slice (some ⟨cl, 0, none⟩) 1 1, .int .i64 4, .slice none 0 0, .slice none 0 0, .slice none 0 0] 45 (0, 0))) (hc : w.heap[cl]? = some (.cells #[.string ⟨#[111]⟩] 9 (0, 0))) :
    StsAre w (.slice (some ⟨st, 0, none⟩) 1 1) [stO ptWell] := by
  refine ⟨[(stO ptWell, .slice (some ⟨cl, 0, none⟩) 1 1, .slice none 0 0, .slice none 0 0, .slice none 0 0)], rfl, Row.owned (row_block (n := 1) (size := 5) hs rfl (by decide)), ?_⟩
  intro i p hp
  match i, hp with
  | 0, hp => cases hp; exact ⟨one_call hc, pt_well w⟩
  | (n + 1), hp => simp at hp
/-- g, of so many rules, in memory -/
structure LR (w : World) (pg pr st cl pt ra rb rc rd i : Nat) (o : Option Addr) (c : Nat) (ps : List (RU × Value)) (wx : World) : Prop where
  len : ps.length = i
  all : ps.map (·.1) = List.replicate i ruW
  hg : wx.heap[pg]? = some (.cells #[.slice (some ⟨pt, 0, none⟩) 4 4, .slice o i c] 25 (0, 0))
  hr : wx.heap[pr]? = some (.cells #[.int .i64 0, .bool true, .slice (some ⟨st, 0, none⟩) 1 1] 38 (0, 0))
  hs : wx.heap[st]? = some (.cells #[.slice (some ⟨cl, 0, none⟩) 1 1, .int .i64 4, .slice none 0 0, .slice none 0 0, .slice none 0 0] 45 (0, 0))
  hc : wx.heap[cl]? = some (.cells #[.string ⟨#[111]⟩] 9 (0, 0))
  own : RuO (fun k => k ≠ pg) wx (pr + 1) (.slice o i c) ps
  m : Mk0 w wx pt ra rb rc rd
  ge : w.heap.size ≤ pg
  lt : pr < wx.heap.size
  bas : w.heap.size ≤ pr
theorem LR.step {w wx X w9 : World} {pg pr st cl pt ra rb rc rd i c c9 : Nat} {o o9 : Option Addr} {ps : List (RU × Value)} {news : List Value} (h : LR w pg pr st cl pt ra rb rc rd i o c ps wx)
    (hX : Below wx.heap.size wx X) (hown9 : w9.ownsRow (pr + 1) 38 3 (.slice o9 (i + 1) c9) (i + 1) (ps.flatMap three ++ news)) (hnews : news = three (ruW, .slice (some ⟨st, 0, none⟩) 1 1))
    (hg9 : X.grownBy w9 (Value.slice o i c).ownBlock) (hf9 : ∀ k, (Value.slice o9 (i + 1) c9).ownBlock = some k → (Value.slice o i c).ownBlock = some k ∨ X.heap.size ≤ k) :
    ∃ ps', LR w pg pr st cl pt ra rb rc rd (i + 1) o9 c9 ps' (w9.setCell ⟨pg, 1, none⟩ (.slice o9 (i + 1) c9)) := by
  subst hnews
  have hownX := h.own.moved hX
  have hrow := h.own.row
  have hrw : wx.ownsRow w.heap.size 38 3 (.slice o i c) ps.length (ps.flatMap three) := owns_base hrow (by have := h.bas; omega)
  have hN : (Value.slice o i c).ownBlock ≠ some pg := own_far hrow h.hg (by decide)
  have hpl := hp_lt h.hg
  have hp9 : w9.heap[pg]? = some (.cells #[.slice (some ⟨pt, 0, none⟩) 4 4, .slice o i c] 25 (0, 0)) := by
    rw [hg9.block pg (by have := hX.size; omega) (fun e => hN e.symm)]; exact bel_get hX h.hg
  have hN9 : (Value.slice o9 (i + 1) c9).ownBlock ≠ some pg := own_far hown9 hp9 (by decide)
  have hpush := hownX.push (w' := w9) (v' := .slice o9 (i + 1) c9) (p := (ruW, .slice (some ⟨st, 0, none⟩) 1 1)) (by rw [h.len]; exact hown9) hg9 hf9
    (kp_two (bel_get hX h.hs) (bel_get hX h.hc) ⟨type_far h.hs h.hg (by decide), own_far hrow h.hs (by decide)⟩ ⟨type_far h.hc h.hg (by decide), own_far hrow h.hc (by decide)⟩ fun w' => sts_one)
  refine ⟨ps ++ [(ruW, .slice (some ⟨st, 0, none⟩) 1 1)], by simp [h.len], by simp [h.all, List.replicate_succ'], by simp [World.setCell, Array.getElem?_modify, hp9], ?_, ?_, ?_, ?_, ?_, h.ge, ?_, h.bas⟩
  · exact kb _ h.hr hX hg9 (fun e => by have := (hrow.lt _ e).1; omega) (type_far h.hr h.hg (by decide))
  · exact kb _ h.hs hX hg9 (own_far hrow h.hs (by decide)) (type_far h.hs h.hg (by decide))
  · exact kb _ h.hc hX hg9 (own_far hrow h.hc (by decide)) (type_far h.hc h.hg (by decide))
  · exact hpush.ag ((Ag.refl _ _).setCell (fun h => h.elim (fun h => h rfl) hN9) _)
  · exact h.m.turn hrw hX hg9 h.hg (by decide) (by decide) (by decide) (by decide) h.ge
  · have := h.lt; have := hX.size; have := hg9.size; simp [World.setCell]; omega
theorem LR.start {w w2 : World} {pt ra rb rc rd : Nat} (h : Mk0 w w2 pt ra rb rc rd) : LR w w2.heap.size (w2.heap.size + 1) (w2.heap.size + 1 + 1 + 1) (w2.heap.size + 1 + 1) pt ra rb rc rd 0 none 0 [] ((((w2.alloc (.cells #[.slice (some ⟨pt, 0, none⟩) 4 4, .slice none 0 0] 25)).alloc
    (.cells #[.int .i64 0, .bool true, .slice (some ⟨w2.heap.size + 1 + 1 + 1, 0, none⟩) 1 1] 38)).alloc (.cells #[.string ⟨#[111]⟩] 9)).alloc (.cells #[.slice (some ⟨w2.heap.size + 1 + 1, 0, none⟩) 1 1, .int .i64 4, .slice none 0 0, .slice none 0 0, .slice none 0 0] 45)) := by
  have hal := allocs_heap [.cells #[.slice (some ⟨pt, 0, none⟩) 4 4, .slice none 0 0] 25, .cells #[.int .i64 0, .bool true, .slice (some ⟨w2.heap.size + 1 + 1 + 1, 0, none⟩) 1 1] 38, .cells #[.string ⟨#[111]⟩] 9, .cells #[.slice (some ⟨w2.heap.size + 1 + 1, 0, none⟩) 1 1, .int .i64 4, .slice none 0 0, .slice none 0 0, .slice none 0 0] 45] w2
  exact ⟨rfl, rfl, hal 0 (by simp), hal 1 (by simp), hal 3 (by simp), hal 2 (by simp), Own.nil, h.moved (bel_new (bel_new (bel_new (bel_new (Below.refl _ _) _) _) _) _), h.bel.size, by simp, by have := h.bel.size; omega⟩
theorem ruW_fit (n : Nat) : RFit (List.replicate n ruW) := by
  intro i r hr
  have : r = ruW := List.eq_of_mem_replicate (List.mem_of_getElem? hr)
  subst this
  refine ⟨by decide, ?_⟩
  intro i s hs
  match i, hs with
  | 0, hs => cases hs; exact ⟨by decide, well_fit⟩
  | (n + 1), hs => simp [ruW] at hs
theorem chk_r0 : chkE T0 (List.replicate 6 ruW) = (0, 0) := by kernel_rfl
theorem chk_r1 : chkE T0 (List.replicate 7 ruW) = (0, 0) := by kernel_rfl
theorem chk_r2 : chkE T0 (List.replicate 8 ruW) = (0, 0) := by kernel_rfl
theorem chk_r3 : chkE T0 (List.replicate 9 ruW) = (6, 4) := by kernel_rfl
theorem chk_rs {k : Nat} (h : k ≤ 2) : chkE T0 (List.replicate (6 + k) ruW) = (0, 0) := by
  obtain rfl | rfl | rfl : k = 0 ∨ k = 1 ∨ k = 2 := by omega
  · exact chk_r0
  · exact chk_r1
  · exact chk_r2
/-- r, of so many steps, in memory -/
structure LS (w : World) (pg pr pt ra rb rc rd i : Nat) (o : Option Addr) (c : Nat) (ps : List (ST × Value × Value × Value × Value)) (wx : World) : Prop where
  len : ps.length = i
  all : ps.map (·.1) = List.replicate i (stO ptE)
  hg : wx.heap[pg]? = some (.cells #[.slice (some ⟨pt, 0, none⟩) 4 4, .slice none 0 0] 25 (0, 0))
  hr : wx.heap[pr]? = some (.cells #[.int .i64 0, .bool true, .slice o i c] 38 (0, 0))
  own : StO (fun k => k ≠ pr ∧ k ≠ pg) wx w.heap.size (.slice o i c) ps
  m : Mk0 w wx pt ra rb rc rd
  gg : w.heap.size ≤ pg
  gr : w.heap.size ≤ pr
theorem LS.start {w w2 : World} {pt ra rb rc rd : Nat} (h : Mk0 w w2 pt ra rb rc rd) : LS w w2.heap.size (w2.heap.size + 1) pt ra rb rc rd 0 none 0 [] ((w2.alloc (.cells #[.slice (some ⟨pt, 0, none⟩) 4 4, .slice none 0 0] 25)).alloc
    (.cells #[.int .i64 0, .bool true, .slice none 0 0] 38)) := by
  have hal := allocs_heap [.cells #[.slice (some ⟨pt, 0, none⟩) 4 4, .slice none 0 0] 25, .cells #[.int .i64 0, .bool true, .slice none 0 0] 38] w2
  exact ⟨rfl, rfl, hal 0 (by simp), hal 1 (by simp), Own.nil, h.moved (bel_new (bel_new (Below.refl _ _) _) _), h.bel.size, by have := h.bel.size; omega⟩
theorem LS.step {w wx X w9 : World} {pg pr cl pt ra rb rc rd i c c9 : Nat} {o o9 : Option Addr} {ps : List (ST × Value × Value × Value × Value)} {news : List Value} (h : LS w pg pr pt ra rb rc rd i o c ps wx)
    (hX : Below wx.heap.size wx X) (hcl : X.heap[cl]? = some (.cells #[.string ⟨#[111]⟩] 9 (0, 0))) (hcg : wx.heap.size ≤ cl)
    (hown9 : w9.ownsRow w.heap.size 45 5 (.slice o9 (i + 1) c9) (i + 1) (ps.flatMap five ++ news)) (hnews : news = five (stO ptE, .slice (some ⟨cl, 0, none⟩) 1 1, .slice none 0 0, .slice none 0 0, .slice none 0 0))
    (hg9 : X.grownBy w9 (Value.slice o i c).ownBlock) (hf9 : ∀ k, (Value.slice o9 (i + 1) c9).ownBlock = some k → (Value.slice o i c).ownBlock = some k ∨ X.heap.size ≤ k) :
    ∃ ps', LS w pg pr pt ra rb rc rd (i + 1) o9 c9 ps' (w9.setCell ⟨pr, 2, none⟩ (.slice o9 (i + 1) c9)) := by
  subst hnews
  have hownX := h.own.moved hX
  have hrow := h.own.row
  have hN : (Value.slice o i c).ownBlock ≠ some pr := own_far hrow h.hr (by decide)
  have hpl := hp_lt h.hr
  have hgl := hp_lt h.hg
  have hp9 : w9.heap[pr]? = some (.cells #[.int .i64 0, .bool true, .slice o i c] 38 (0, 0)) := by
    rw [hg9.block pr (by have := hX.size; omega) (fun e => hN e.symm)]; exact bel_get hX h.hr
  have hN9 : (Value.slice o9 (i + 1) c9).ownBlock ≠ some pr := own_far hown9 hp9 (by decide)
  have hpush := hownX.push (w' := w9) (v' := .slice o9 (i + 1) c9) (p := (stO ptE, .slice (some ⟨cl, 0, none⟩) 1 1, .slice none 0 0, .slice none 0 0, .slice none 0 0)) (by rw [h.len]; exact hown9) hg9 hf9
    ((KP.block hcl ⟨⟨by omega, by omega⟩, fun e => by have := (hrow.lt _ e).2; omega⟩).mono fun w' h' => ⟨one_call h', pt_kind 1 w'⟩)
  refine ⟨ps ++ [(stO ptE, .slice (some ⟨cl, 0, none⟩) 1 1, .slice none 0 0, .slice none 0 0, .slice none 0 0)], by simp [h.len], by simp [h.all, List.replicate_succ'], ?_, by simp [World.setCell, Array.getElem?_modify, hp9], ?_, ?_, h.gg, h.gr⟩
  · exact kb _ h.hg hX hg9 (own_far hrow h.hg (by decide)) (type_far h.hg h.hr (by decide))
  · exact hpush.ag ((Ag.refl _ _).setCell (fun h => h.elim (fun h => h.1 rfl) hN9) _)
  · exact h.m.turn hrow hX hg9 h.hr (by decide) (by decide) (by decide) (by decide) h.gr
def ruS (n : Nat) : RU := ⟨0, true, List.replicate n (stO ptE)⟩
/-- g, with r as its one rule -/
theorem LS.last {w wx : World} {pg pr pt ra rb rc rd i c : Nat} {o : Option Addr} {ps : List (ST × Value × Value × Value × Value)} (h : LS w pg pr pt ra rb rc rd i o c ps wx) :
    RusAre ((wx.alloc (.cells #[.int .i64 0, .bool true, .slice o i c] 38)).setCell ⟨pg, 1, none⟩ (.slice (some ⟨wx.heap.size, 0, none⟩) 1 1)) (.slice (some ⟨wx.heap.size, 0, none⟩) 1 1) [ruS i] ∧
    Mk0 w ((wx.alloc (.cells #[.int .i64 0, .bool true, .slice o i c] 38)).setCell ⟨pg, 1, none⟩ (.slice (some ⟨wx.heap.size, 0, none⟩) 1 1)) pt ra rb rc rd ∧
    ((wx.alloc (.cells #[.int .i64 0, .bool true, .slice o i c] 38)).setCell ⟨pg, 1, none⟩ (.slice (some ⟨wx.heap.size, 0, none⟩) 1 1)).heap[pg]? = some (.cells #[.slice (some ⟨pt, 0, none⟩) 4 4, .slice (some ⟨wx.heap.size, 0, none⟩) 1 1] 25 (0, 0)) := by
  have hrow := h.own.row
  have hgl := hp_lt h.hg
  have hb : Below wx.heap.size wx (wx.alloc (.cells #[.int .i64 0, .bool true, .slice o i c] 38)) := bel_new (Below.refl _ _) _
  have hg1 := bel_get hb h.hg
  have hN : (Value.slice o i c).ownBlock ≠ some pg := own_far hrow h.hg (by decide)
  have hown := (h.own.moved hb).ag ((Ag.refl _ _).setCell (p := ⟨pg, 1, none⟩) (fun h => h.elim (fun h => h.2 rfl) hN) (.slice (some ⟨wx.heap.size, 0, none⟩) 1 1))
  refine ⟨⟨[(ruS i, .slice o i c)], rfl, ?_, ?_⟩, ?_, by simp [World.setCell, Array.getElem?_modify, hg1]⟩
  · refine Row.owned (row_block (n := 1) (size := 3) (cs := #[.int .i64 0, .bool true, .slice o i c]) (e := 38) ?_ rfl (by decide))
    rw [Below.heap_setCell _ _ _ _ (show wx.heap.size ≠ pg by omega)]
    exact heap_alloc_new wx _
  · intro j p hp
    match j, hp with
    | 0, hp =>
      cases hp
      have := StO.are hown
      rw [h.all] at this
      exact this
    | (n + 1), hp => simp at hp
  · exact h.m.turn hrow hb (World.grownBy.refl _ _) h.hg (by decide) (by decide) (by decide) (by decide) h.gg
theorem ruS_fit {n : Nat} (h : n ≤ 1000) : RFit [ruS n] := by
  intro i r hr
  match i, hr with
  | 0, hr =>
    cases hr
    refine ⟨by simpa [ruS] using h, fun j s hs => ?_⟩
    have : s = stO ptE := List.eq_of_mem_replicate (List.mem_of_getElem? hs)
    subst this
    exact ⟨by decide, ptE_fit⟩
  | (n + 1), hr => simp at hr
theorem chk_s0 : chkE T0 [ruS 2] = (0, 0) := by kernel_rfl
theorem chk_s1 : chkE T0 [ruS 3] = (0, 0) := by kernel_rfl
theorem chk_s2 : chkE T0 [ruS 4] = (0, 0) := by kernel_rfl
theorem chk_s3 : chkE T0 [ruS 5] = (6, 4) := by kernel_rfl
theorem chk_ss {k : Nat} (h : k ≤ 2) : chkE T0 [ruS (2 + k)] = (0, 0) := by
  obtain rfl | rfl | rfl : k = 0 ∨ k = 1 ∨ k = 2 := by omega
  · exact chk_s0
  · exact chk_s1
  · exact chk_s2
set_option maxHeartbeats 8000000 in
set_option maxRecDepth 100000 in
theorem gramLimits_walk (a b : Int) (w : World) :
    Calls Try.prog 6 #[.int .i64 a, .int .i64 b] w fun e w' => e = .returned (.bool true) ∧ Below w.heap.size w w' := by
  obtain ⟨ii, hi, hz0, hz1, hz2⟩ := infoToken
  obtain ⟨ir, hr0, hr1, hr2, hr3⟩ := infoRule
  obtain ⟨is, hs0, hs1, hs2, hs3⟩ := infoStep
  obtain ⟨k, hk, ek⟩ := u64_mod' b 4 (by omega) (by omega)
  obtain ⟨m, hm, em⟩ := u64_mod' a 3 (by omega) (by omega)
  have ek1 : (IntKind.u64.wrap b).tmod 4 = (k : Int) := ek
  have em1 : (IntKind.u64.wrap a).tmod 3 = (m : Int) := em
  have ek2 : IntKind.i64.wrap (k : Int) = (k : Int) := IntWalk.i64_in _ (by omega)
  have em2 : IntKind.i64.wrap (m : Int) = (m : Int) := IntWalk.i64_in _ (by omega)
  clear ek em
  go_enter Try.func6, Try.ntmps6
  go_wp2_with fail
  refine (mk0_any w).mono ?_
  rintro e w2 ⟨pt, ra, rb, rc, rd, rfl, hmk⟩
  have HM := Lib.hid hmk
  clear hmk
  obtain rfl | rfl | rfl : m = 0 ∨ m = 1 ∨ m = 2 := by omega
  · go_wp2_with fail
    go_loopg [8] (10 + k) (fun g s wx => ∃ i j : Nat, i + g = 14 + k ∧ s = .int .i64 (i : Int) ∧ LM w w2.heap.size i j wx)
    case atStart => exact ⟨4, 0, by omega, rfl, LM.start HM.out⟩
    case round =>
      obtain ⟨i, j, hig, rfl, hL⟩ := hrel
      have HL := Lib.hid hL
      obtain ⟨o, c, ps, hij, hpl, hps, hpg, hown, hbel, hge⟩ := hL
      have hi4 : 4 ≤ i := by omega
      have HR := Lib.hid (And.intro hij (And.intro hpl (And.intro hps hown)))
      clear hij hpl hps hown
      have c0 : wr.cell? ⟨w2.heap.size, 0, none⟩ = some (.slice o i c) ∧ wr.cell? ⟨w2.heap.size, 1, none⟩ = some (.slice none 0 0) ∧ wr.frozen? ⟨w2.heap.size, 0, none⟩ = false := by simp [World.cell?, World.frozen?, hpg]
      obtain ⟨c0, c9, c1⟩ := c0
      cases gk with
      | zero =>
        have hd : decide ((i : Int) < 14 + (k : Int)) = false := by simp; omega
        have hT : TksAre wr (.slice o i c) (T0 ++ tks j) := by have := HR.out.2.2.2.are; rw [HR.out.2.2.1] at this; exact this
        have HB := Lib.hid hbel
        have hj := HR.out.1
        by_cases hk2 : k ≤ 2
        · have hc := gchk_any (T0 ++ tks j) [] _ _ wr hT (rules_nil wr) (by rw [tks_len]; omega) (by decide) (tks_fit j) rfit_nil
          obtain rfl : j = 10 + k := by omega
          rw [chk_ts hk2] at hc
          have hb : decide (14 + (k : Int) ≤ 16) = true := by simp; omega
          clear hT hk2 hj
          go_wp2_with fail
          refine hc.mono ?_
          clear hc
          rintro e w3 ⟨rfl, hb3⟩
          have HB3 := Lib.hid (HB.out.trans (hb3.mono HB.out.size))
          clear hb3
          go_wp2_with fail
          refine (gtold_any w3).mono ?_
          rintro e w4 ⟨rfl, hb4⟩
          have HB4 := Lib.hid (HB3.out.trans (hb4.mono HB3.out.size))
          clear hb4
          go_wp2_with fail
          go_ret
          exact ⟨rfl, HB4.out⟩
        · have hc := gchk_any (T0 ++ tks j) [] _ _ wr hT (rules_nil wr) (by rw [tks_len]; omega) (by decide) (tks_fit j) rfit_nil
          obtain rfl : j = 13 := by omega
          rw [chk_t3] at hc
          have hb : decide (14 + (k : Int) ≤ 16) = false := by simp; omega
          clear hT hk2 hj
          go_wp2_with fail
          refine hc.mono ?_
          clear hc
          rintro e w3 ⟨rfl, hb3⟩
          have HB3 := Lib.hid (HB.out.trans (hb3.mono HB.out.size))
          clear hb3
          go_wp2_with fail
          refine (gtold_any w3).mono ?_
          rintro e w4 ⟨rfl, hb4⟩
          have HB4 := Lib.hid (HB3.out.trans (hb4.mono HB3.out.size))
          clear hb4
          go_wp2_with fail
          go_ret
          exact ⟨rfl, HB4.out⟩
      | succ g =>
        have hi17 : i ≤ 16 := by omega
        have hd : decide ((i : Int) < 14 + (k : Int)) = true := by simp; omega
        have c2 := hp_lt hpg
        have n0 : ¬ w2.heap.size = wr.heap.size := by omega
        have n3 : w2.heap.size < wr.heap.size + 1 := by omega
        have n4 : w2.heap.size < wr.heap.size + 1 + 1 := by omega
        have n5 : w2.heap.size < wr.heap.size + 1 + 1 + 1 := by omega
        have n1 : ¬ w2.heap.size = wr.heap.size + 1 := by omega
        have n2 : ¬ w2.heap.size = wr.heap.size + 1 + 1 := by omega
        have HROW := Lib.hid (show wr.ownsRow w.heap.size 55 6 (.slice o i c) i (ps.flatMap six) from by have := HR.out.2.2.2.row; rw [HR.out.2.1] at this; exact this)
        have hN : (Value.slice o i c).ownBlock ≠ some w2.heap.size := own_far HROW.out hpg (by decide)
        have hw2 : (0 : Int) ≤ (i : Int) + 1 := by omega
        have hw3 : (i : Int) + 1 ≤ 20 := by omega
        have hw5 : (i : Int) ≤ (i : Int) + 1 := by omega
        go_upto_region 9 with (fail)
        have hw1 : IntKind.i64.wrap ((i : Int) + 1) = (i : Int) + 1 := IntWalk.i64_in _ (by omega)
        have hw4 : ((i : Int) + 1).toNat = i + 1 := by omega
        have hw6 : ¬ (9223372036854775807 < 1 + (min (i + 1) 20 - i)) := by omega
        go_region_law
          (first
            | (go_simp; go_at_call 25; refine (one_exact _ _).mono ?_; rintro e w3 ⟨rfl, rfl⟩)
            | (refine step_append_far _ rfl _ _ 22 rfl w.heap.size 55 ii _ 6 88 Try.underlying22 hi hz0 hz1 hz2 rfl (by decide) (.slice o i c) i (ps.flatMap six) rfl (by repeat (first | exact HROW.out | refine World.ownsRow.alloc ?_ _ | refine owns_drew ?_)) _ 1 _ rfl (by first | exact row_six_new rfl (by simp) | exact row_drew (row_six_new rfl (by simp))) rfl (by simp [Value.oneCell']) (by unfold maxLen; omega) (by omega) (by have := hbel.size; simp; omega) ?_; intro v9 w9 hown9 hg9 hf9 hb9; obtain ⟨o9, c9, rfl⟩ := owns_slice hown9
               have hp9 : w9.heap[w2.heap.size]? = some (.cells #[.slice o i c, .slice none 0 0] 25 (0, 0)) := by
                 rw [hg9.block _ (by simp; omega) (fun e => hN e.symm)]; exact bel_get (by repeat (first | exact Below.refl _ _ | refine Below.drew ?_ | refine bel_new ?_ _)) hpg
               have z0 : w9.cell? ⟨w2.heap.size, 0, none⟩ = some (.slice o i c) := by simp [World.cell?, hp9]
               have z1 : w9.frozen? ⟨w2.heap.size, 0, none⟩ = false := by simp [World.frozen?, hp9]))
        all_goals (
          obtain ⟨w5, hw5⟩ : ∃ w5, w5 = w9.setCell ⟨w2.heap.size, 0, none⟩ (.slice o9 (i + 1) c9) := ⟨_, rfl⟩
          rw [← hw5]
          have hL5 : LM w w2.heap.size (i + 1) (j + 1) w5 := by
            rw [hw5]
            exact LM.step (q := wr.heap.size + 1) HR.out.1 HR.out.2.1 HR.out.2.2.1 hpg HR.out.2.2.2 hbel hge (by repeat (first | exact Below.refl _ _ | refine Below.drew ?_ | refine bel_new ?_ _)) (bel_get (w := (wr.alloc _).alloc _) (by repeat (first | exact Below.refl _ _ | refine Below.drew ?_ | refine bel_new ?_ _)) (al_two wr _ _)) (by omega) hown9 rfl hg9 hf9 hb9
          have HL5 := Lib.hid hL5
          clear hw5 hL5 hown9 hg9 hf9 hb9 hp9 z0 z1 hw1 hw4 hw6
          go_wp2
          go_roundg g
          case measure => omega
          case rel => exact ⟨i + 1, j + 1, by omega, by simp, HL5.out⟩)
  · go_wp2_with fail
    go_loopg [11] (6 + k) (fun g s wx => ∃ (i : Nat) (o : Option Addr) (c : Nat) (ps : List (RU × Value)), i + g = 6 + k ∧ s = .int .i64 (i : Int) ∧ LR w w2.heap.size (w2.heap.size + 1) (w2.heap.size + 1 + 1 + 1) (w2.heap.size + 1 + 1) pt ra rb rc rd i o c ps wx)
    case atStart => exact ⟨0, none, 0, [], by omega, rfl, LR.start HM.out⟩
    case round =>
      obtain ⟨i, o, c, ps, hig, rfl, hL⟩ := hrel
      have HL := Lib.hid hL
      have hi9 : i ≤ 9 := by omega
      have hpg := hL.hg
      have hpr := hL.hr
      have hlt := hL.lt
      clear hL
      have c0 : wr.cell? ⟨w2.heap.size, 0, none⟩ = some (.slice (some ⟨pt, 0, none⟩) 4 4) ∧ wr.cell? ⟨w2.heap.size, 1, none⟩ = some (.slice o i c) ∧ wr.frozen? ⟨w2.heap.size, 1, none⟩ = false := by simp [World.cell?, World.frozen?, hpg]
      have r0 : wr.cell? ⟨w2.heap.size + 1, 0, none⟩ = some (.int .i64 0) ∧ wr.cell? ⟨w2.heap.size + 1, 1, none⟩ = some (.bool true) ∧ wr.cell? ⟨w2.heap.size + 1, 2, none⟩ = some (.slice (some ⟨w2.heap.size + 1 + 1 + 1, 0, none⟩) 1 1) := by simp [World.cell?, hpr]
      obtain ⟨c0, c1, c2⟩ := c0
      obtain ⟨r0, r1, r2⟩ := r0
      cases gk with
      | zero =>
        have hd : decide ((i : Int) < 6 + (k : Int)) = false := by simp; omega
        have hR : RusAre wr (.slice o i c) (List.replicate i ruW) := by have := HL.out.own.are; rw [HL.out.all] at this; exact this
        have HB := Lib.hid HL.out.m.bel
        have hlg := hp_lt hpg
        by_cases hk2 : k ≤ 2
        · have hc := gchk_any T0 (List.replicate i ruW) _ _ wr HL.out.m.toks hR (by decide) (by simp; omega) T0_fit (ruW_fit i)
          rw [show chkE T0 (List.replicate i ruW) = (0, 0) from by rw [show i = 6 + k by omega]; exact chk_rs hk2] at hc
          have hb : decide (6 + (k : Int) ≤ 8) = true := by simp; omega
          clear hR hk2
          go_wp2_with fail
          refine hc.mono ?_
          clear hc
          rintro e w3 ⟨rfl, hb3⟩
          have HB3 := Lib.hid (HB.out.trans (hb3.mono HB.out.size))
          replace c0 := (hb3.cell (p := ⟨w2.heap.size, 0, none⟩) hlg).trans c0
          have hlg3 := Nat.lt_of_lt_of_le hlg hb3.size
          clear hb3
          go_wp2_with fail
          refine (gtold_any w3).mono ?_
          rintro e w4 ⟨rfl, hb4⟩
          have HB4 := Lib.hid (HB3.out.trans (hb4.mono HB3.out.size))
          replace c0 := (hb4.cell (p := ⟨w2.heap.size, 0, none⟩) hlg3).trans c0
          clear hb4
          go_wp2_with fail
          go_ret
          exact ⟨rfl, HB4.out⟩
        · have hc := gchk_any T0 (List.replicate i ruW) _ _ wr HL.out.m.toks hR (by decide) (by simp; omega) T0_fit (ruW_fit i)
          rw [show chkE T0 (List.replicate i ruW) = (6, 4) from by rw [show i = 9 by omega]; exact chk_r3] at hc
          have hb : decide (6 + (k : Int) ≤ 8) = false := by simp; omega
          clear hR hk2
          go_wp2_with fail
          refine hc.mono ?_
          clear hc
          rintro e w3 ⟨rfl, hb3⟩
          have HB3 := Lib.hid (HB.out.trans (hb3.mono HB.out.size))
          replace c0 := (hb3.cell (p := ⟨w2.heap.size, 0, none⟩) hlg).trans c0
          have hlg3 := Nat.lt_of_lt_of_le hlg hb3.size
          clear hb3
          go_wp2_with fail
          refine (gtold_any w3).mono ?_
          rintro e w4 ⟨rfl, hb4⟩
          have HB4 := Lib.hid (HB3.out.trans (hb4.mono HB3.out.size))
          replace c0 := (hb4.cell (p := ⟨w2.heap.size, 0, none⟩) hlg3).trans c0
          clear hb4
          go_wp2_with fail
          go_ret
          exact ⟨rfl, HB4.out⟩
      | succ g =>
        have hd : decide ((i : Int) < 6 + (k : Int)) = true := by simp; omega
        have n0 : ¬ w2.heap.size = wr.heap.size := by omega
        have n1 : w2.heap.size < wr.heap.size := by omega
        have HROW := Lib.hid (show wr.ownsRow (w2.heap.size + 1 + 1) 38 3 (.slice o i c) i (ps.flatMap three) from by have := HL.out.own.row; rw [HL.out.len] at this; exact this)
        have hN : (Value.slice o i c).ownBlock ≠ some w2.heap.size := own_far HROW.out hpg (by decide)
        go_wp2_with (
          at_builtin; refine wpList_append_far _ rfl _ _ 23 rfl (w2.heap.size + 1 + 1) 38 ir _ 3 40 Try.underlying23 hr0 hr1 hr2 hr3 rfl (by decide) (.slice o i c) i (ps.flatMap three) rfl (by repeat (first | exact HROW.out | refine World.ownsRow.alloc ?_ _ | refine owns_drew ?_)) _ 1 _ rfl (by first | exact row_new rfl (by simp)) rfl (by simp [Value.oneCell']) (by unfold maxLen; omega) (by omega) (by simp; omega) ?_; intro v9 w9 hown9 hg9 hf9 hb9; obtain ⟨o9, c9, rfl⟩ := owns_slice hown9
          have hp9 : w9.heap[w2.heap.size]? = some (.cells #[.slice (some ⟨pt, 0, none⟩) 4 4, .slice o i c] 25 (0, 0)) := by
            rw [hg9.block _ (by simp; omega) (fun e => hN e.symm)]; exact bel_get (by repeat (first | exact Below.refl _ _ | refine Below.drew ?_ | refine bel_new ?_ _)) hpg
          have z0 : w9.cell? ⟨w2.heap.size, 1, none⟩ = some (.slice o i c) := by simp [World.cell?, hp9]
          have z1 : w9.frozen? ⟨w2.heap.size, 1, none⟩ = false := by simp [World.frozen?, hp9])
        obtain ⟨w5, hw5⟩ : ∃ w5, w5 = w9.setCell ⟨w2.heap.size, 1, none⟩ (.slice o9 (i + 1) c9) := ⟨_, rfl⟩
        rw [← hw5]
        have hL5 := HL.out.step (by repeat (first | exact Below.refl _ _ | refine Below.drew ?_ | refine bel_new ?_ _)) hown9 rfl hg9 hf9
        rw [← hw5] at hL5
        obtain ⟨ps5, hL5⟩ := hL5
        have HL5 := Lib.hid hL5
        clear hw5 hL5 hown9 hg9 hf9 hb9 hp9 z0 z1
        go_roundg g
        case measure => omega
        case rel => exact ⟨i + 1, o9, c9, ps5, by omega, by simp, HL5.out⟩
  · go_wp2_with fail
    go_loopg [14] (2 + k) (fun g s wx => ∃ (i : Nat) (o : Option Addr) (c : Nat) (ps : List (ST × Value × Value × Value × Value)), i + g = 2 + k ∧ s = .int .i64 (i : Int) ∧ LS w w2.heap.size (w2.heap.size + 1) pt ra rb rc rd i o c ps wx)
    case atStart => exact ⟨0, none, 0, [], by omega, rfl, LS.start HM.out⟩
    case round =>
      obtain ⟨i, o, c, ps, hig, rfl, hL⟩ := hrel
      have HL := Lib.hid hL
      have hi9 : i ≤ 5 := by omega
      have hpg := hL.hg
      have hpr := hL.hr
      have hgl := hp_lt hpg
      have hlt := hp_lt hpr
      have hbs := hL.gr
      clear hL
      have c0 : wr.cell? ⟨w2.heap.size, 0, none⟩ = some (.slice (some ⟨pt, 0, none⟩) 4 4) ∧ wr.cell? ⟨w2.heap.size, 1, none⟩ = some (.slice none 0 0) ∧ wr.frozen? ⟨w2.heap.size, 1, none⟩ = false := by simp [World.cell?, World.frozen?, hpg]
      have r0 : wr.cell? ⟨w2.heap.size + 1, 0, none⟩ = some (.int .i64 0) ∧ wr.cell? ⟨w2.heap.size + 1, 1, none⟩ = some (.bool true) ∧ wr.cell? ⟨w2.heap.size + 1, 2, none⟩ = some (.slice o i c) := by simp [World.cell?, hpr]
      obtain ⟨c0, c1, c2⟩ := c0
      obtain ⟨r0, r1, r2⟩ := r0
      cases gk with
      | zero =>
        have hd : decide ((i : Int) < 2 + (k : Int)) = false := by simp; omega
        have n0 : ¬ w2.heap.size = wr.heap.size := by omega
        have n1 : ¬ w2.heap.size + 1 = wr.heap.size := by omega
        go_upto_region 25 with (fail)
        obtain ⟨hR, hm, hg5⟩ := HL.out.last
        have hcm : (wr.alloc (.cells #[.int .i64 0, .bool true, .slice o i c] 38)).setCell ⟨w2.heap.size, 1, none⟩ (.slice (some ⟨wr.heap.size, 0, none⟩) 1 1) = (wr.setCell ⟨w2.heap.size, 1, none⟩ (.slice (some ⟨wr.heap.size, 0, none⟩) 1 1)).alloc (.cells #[.int .i64 0, .bool true, .slice o i c] 38) := World.setCell_alloc_past _ _ _ _ hgl
        rw [hcm] at hR hm hg5
        obtain ⟨w5, hw5⟩ : ∃ w5, w5 = (wr.setCell ⟨w2.heap.size, 1, none⟩ (.slice (some ⟨wr.heap.size, 0, none⟩) 1 1)).alloc (.cells #[.int .i64 0, .bool true, .slice o i c] 38) := ⟨_, rfl⟩
        rw [← hw5] at hR hm hg5 ⊢
        clear hcm
        clear hw5 c0 c1 c2
        have c0 : w5.cell? ⟨w2.heap.size, 0, none⟩ = some (.slice (some ⟨pt, 0, none⟩) 4 4) ∧ w5.cell? ⟨w2.heap.size, 1, none⟩ = some (.slice (some ⟨wr.heap.size, 0, none⟩) 1 1) := by simp [World.cell?, hg5]
        obtain ⟨c0, c1⟩ := c0
        have HB := Lib.hid hm.bel
        have hlg := hp_lt hg5
        by_cases hk2 : k ≤ 2
        · have hc := gchk_any T0 [ruS i] _ _ w5 hm.toks hR (by decide) (by simp) T0_fit (ruS_fit (by omega))
          rw [show chkE T0 [ruS i] = (0, 0) from by rw [show i = 2 + k by omega]; exact chk_ss hk2] at hc
          have hb : decide (2 + (k : Int) ≤ 4) = true := by simp; omega
          clear hR hk2
          go_wp2_with fail
          refine hc.mono ?_
          clear hc
          rintro e w3 ⟨rfl, hb3⟩
          have HB3 := Lib.hid (HB.out.trans (hb3.mono HB.out.size))
          replace c0 := (hb3.cell (p := ⟨w2.heap.size, 0, none⟩) hlg).trans c0
          have hlg3 := Nat.lt_of_lt_of_le hlg hb3.size
          clear hb3
          go_wp2_with fail
          refine (gtold_any w3).mono ?_
          rintro e w4 ⟨rfl, hb4⟩
          have HB4 := Lib.hid (HB3.out.trans (hb4.mono HB3.out.size))
          replace c0 := (hb4.cell (p := ⟨w2.heap.size, 0, none⟩) hlg3).trans c0
          clear hb4
          go_wp2_with fail
          go_ret
          exact ⟨rfl, HB4.out⟩
        · have hc := gchk_any T0 [ruS i] _ _ w5 hm.toks hR (by decide) (by simp) T0_fit (ruS_fit (by omega))
          rw [show chkE T0 [ruS i] = (6, 4) from by rw [show i = 5 by omega]; exact chk_s3] at hc
          have hb : decide (2 + (k : Int) ≤ 4) = false := by simp; omega
          clear hR hk2
          go_wp2_with fail
          refine hc.mono ?_
          clear hc
          rintro e w3 ⟨rfl, hb3⟩
          have HB3 := Lib.hid (HB.out.trans (hb3.mono HB.out.size))
          replace c0 := (hb3.cell (p := ⟨w2.heap.size, 0, none⟩) hlg).trans c0
          have hlg3 := Nat.lt_of_lt_of_le hlg hb3.size
          clear hb3
          go_wp2_with fail
          refine (gtold_any w3).mono ?_
          rintro e w4 ⟨rfl, hb4⟩
          have HB4 := Lib.hid (HB3.out.trans (hb4.mono HB3.out.size))
          replace c0 := (hb4.cell (p := ⟨w2.heap.size, 0, none⟩) hlg3).trans c0
          clear hb4
          go_wp2_with fail
          go_ret
          exact ⟨rfl, HB4.out⟩
      | succ g =>
        have hd : decide ((i : Int) < 2 + (k : Int)) = true := by simp; omega
        have n0 : ¬ w2.heap.size + 1 = wr.heap.size := by omega
        have n1 : ¬ w2.heap.size + 1 = wr.heap.size + 1 := by omega
        have n2 : w2.heap.size + 1 < wr.heap.size + 1 := by omega
        have HROW := Lib.hid (show wr.ownsRow w.heap.size 45 5 (.slice o i c) i (ps.flatMap five) from by have := HL.out.own.row; rw [HL.out.len] at this; exact this)
        have hN : (Value.slice o i c).ownBlock ≠ some (w2.heap.size + 1) := own_far HROW.out hpr (by decide)
        go_wp2_with (
          at_builtin; refine wpList_append_far _ rfl _ _ 36 rfl w.heap.size 45 is _ 5 104 Try.underlying36 hs0 hs1 hs2 hs3 rfl (by decide) (.slice o i c) i (ps.flatMap five) rfl (by repeat (first | exact HROW.out | refine World.ownsRow.alloc ?_ _ | refine owns_drew ?_)) _ 1 _ rfl (by first | exact row_new rfl (by simp)) rfl (by simp [Value.oneCell']) (by unfold maxLen; omega) (by omega) (by simp; omega) ?_; intro v9 w9 hown9 hg9 hf9 hb9; obtain ⟨o9, c9, rfl⟩ := owns_slice hown9
          have hp9 : w9.heap[w2.heap.size + 1]? = some (.cells #[.int .i64 0, .bool true, .slice o i c] 38 (0, 0)) := by
            rw [hg9.block _ (by simp; omega) (fun e => hN e.symm)]; exact bel_get (by repeat (first | exact Below.refl _ _ | refine Below.drew ?_ | refine bel_new ?_ _)) hpr
          have z0 : w9.cell? ⟨w2.heap.size + 1, 2, none⟩ = some (.slice o i c) := by simp [World.cell?, hp9]
          have z1 : w9.frozen? ⟨w2.heap.size + 1, 2, none⟩ = false := by simp [World.frozen?, hp9])
        obtain ⟨w5, hw5⟩ : ∃ w5, w5 = w9.setCell ⟨w2.heap.size + 1, 2, none⟩ (.slice o9 (i + 1) c9) := ⟨_, rfl⟩
        rw [← hw5]
        have hL5 := HL.out.step (cl := wr.heap.size) (by repeat (first | exact Below.refl _ _ | refine Below.drew ?_ | refine bel_new ?_ _)) (bel_get (w := wr.alloc (.cells #[.string ⟨#[111]⟩] 9)) (bel_new (Below.refl _ _) _) (heap_alloc_new wr _)) (Nat.le_refl _) hown9 rfl hg9 hf9
        rw [← hw5] at hL5
        obtain ⟨ps5, hL5⟩ := hL5
        have HL5 := Lib.hid hL5
        clear hw5 hL5 hown9 hg9 hf9 hb9 hp9 z0 z1
        go_roundg g
        case measure => omega
        case rel => exact ⟨i + 1, o9, c9, ps5, by omega, by simp, HL5.out⟩
theorem gramLimits_fin (a b : Int) (ha : (Lit.int .i64 a).wf = true) (hb : (Lit.int .i64 b).wf = true) (w : World) :
    Calls Try.prog 6 #[.int .i64 a, .int .i64 b] w fun e w' => e = .returned (.bool true) ∧ Below w.heap.size w w' := gramLimits_walk a b w
end Go.Proofs.Ytkmnigoikkffnaa
