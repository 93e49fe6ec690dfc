/- gobolaw11.Make, at any numbers: what it holds on its way. -/
import Derived.Test.YtbanmggkfpnalaaGreatDoorGBrkW
set_option linter.unusedVariables false
set_option linter.unusedSimpArgs false
namespace Go.Proofs.YtbanmggkfpnalaaGreatDoor
open Go.RowKit Ru

theorem Mk0.tkx {X : Nat → Prop} {w w' : World} {pt ra rb rc rd : Nat} (h : Mk0 w w' pt ra rb rc rd) (ha : X ra) (hb : X rb) (hc : X rc) (hd : X rd) : TkO X w' w.heap.size (.slice (some ⟨pt, 0, none⟩) 4 4) (ps0 ra rb rc rd) := by
  have hne : ∀ {k : Nat} {o : Obj}, w'.heap[k]? = some o → o ≠ .cells (t0cells ra rb rc rd) 61 (0, 0) → Value.ownBlock (.slice (some ⟨pt, 0, none⟩) 4 4) ≠ some k := by
    intro k o hk ho e
    simp [Value.ownBlock] at e
    subst e
    rw [h.ht] at hk
    exact ho (by cases hk; rfl)
  refine ⟨h.owns, ?_⟩
  intro p hp
  simp only [ps0, List.mem_cons, List.not_mem_nil, or_false] at hp
  rcases hp with rfl | rfl | rfl | rfl
  · exact (KP.block h.ha ⟨ha, hne h.ha (by simp)⟩).mono fun w2 h2 => re_set [(97, 97)] 1 rfl (by decide) h2
  · exact (KP.block h.hb ⟨hb, hne h.hb (by simp)⟩).mono fun w2 h2 => re_set [(10, 10), (98, 98)] 2 rfl (by decide) h2
  · exact (KP.block h.hc ⟨hc, hne h.hc (by simp)⟩).mono fun w2 h2 => re_set [(99, 99)] 1 rfl (by decide) h2
  · exact (KP.block h.hd ⟨hd, hne h.hd (by simp)⟩).mono fun w2 h2 => re_set [(100, 100)] 1 rfl (by decide) h2
theorem tko_kpx {X : Nat → Prop} {w : World} {B : Nat} {v : Value} {ps : List (TK × Value × Value)} (h : TkO X w B v ps) (hv : ∀ k, v.ownBlock = some k → X k) : KP X w (fun w' => TksAre w' v (ps.map (·.1))) :=
  fun w' h' => TkO.are (Own.ag h (h'.sub (fun k _ hk => by rcases hk with h1 | h1; exact h1; exact hv k h1)))
/-- more than one appended -/
theorem Own.pushes {α : Type} {X : Nat → Prop} {w w' : World} {B size : Nat} {e : TypeId} {v v' : Value} {f : α → List Value} {G : World → α → Prop} {ps : List α} (h : Own X w B e size v f G ps) {qs : List α} (hr : w'.ownsRow B e size v' (ps.length + qs.length) (ps.flatMap f ++ qs.flatMap f)) (hg : w.grownBy w' v.ownBlock) (hf : ∀ k, v'.ownBlock = some k → v.ownBlock = some k ∨ w.heap.size ≤ k)
    (hp : ∀ p ∈ qs, KP (fun k => X k ∧ v.ownBlock ≠ some k) w (fun w' => G w' p)) : Own X w' B e size v' f G (ps ++ qs) := by
  have key : ∀ {F : World → Prop}, KP (fun k => X k ∧ v.ownBlock ≠ some k) w F → KP (fun k => X k ∧ v'.ownBlock ≠ some k) w' F := by
    intro F hF w2 h2
    refine hF w2 ⟨h2.os.trans hg.os, h2.tape.trans hg.tape, h2.output.trans hg.output, Nat.le_trans hg.size h2.size, fun k hk hS => ?_⟩
    rw [h2.block k (Nat.lt_of_lt_of_le hk hg.size) ⟨hS.1, fun e => by rcases hf k e with e2 | e2; exact hS.2 e2; omega⟩]
    exact hg.block k hk (fun e => hS.2 e.symm)
  refine ⟨by simpa using hr, fun q hq => ?_⟩
  rcases List.mem_append.1 hq with h1 | h1
  · exact key (h.keep q h1)
  · exact key (hp q h1)
/-- Make as a function of its numbers -/
def TN (b : Bool) : List TK := if b = true then T6 else T0
def CN (b : Bool) : List ByteArray := if b = true then [nmO, nmP] else [nmO]
def RN (b : Bool) : List ByteArray := if b = true then [nmC, nmQ] else [nmC]
def nnF (k : Int) : Nat := (wrap64 (1 + wrap64 ((IntKind.u64.wrap ((IntKind.u64.wrap k).tdiv 2)).tmod 2))).toNat
def loF (N j nn : Nat) : Nat := 1 + (N - 1) * j / nn
def pcF (C R : List ByteArray) (l : List Int) (nn j : Nat) : PT := patF ⟨(l.drop (loF l.length j nn)).take (loF l.length (j + 1) nn - loF l.length j nn), [nmA, nmB], C, R⟩
def stpF (C R : List ByteArray) (l : List Int) (j : Nat) : ST :=
  ⟨if j = 0 ∧ (bits BinOp.and IntKind.i64 (l.getD 0 0) 1 == 1) = false then [] else pickF C (wrap64 ((l.getD 0 0).tdiv 4)), pcF C R l (nnF (l.getD 0 0)) j⟩
def rulF (C R : List ByteArray) (i : Nat) (l : List Int) : RU :=
  ⟨10 + (i : Int), bits BinOp.and IntKind.i64 (l.getD 0 0) 1 == 1, (List.range (nnF (l.getD 0 0))).map (stpF C R l)⟩
def rowF (C R : List ByteArray) (L : List (List Int)) (i : Nat) : List RU := match L[i]? with
  | some l => if l.length < 2 then [] else [rulF C R i l]
  | none => []
def rulesF (C R : List ByteArray) (L : List (List Int)) (i : Nat) : List RU := (List.range i).flatMap (rowF C R L)
def mkT (L : List (List Int)) : List TK := TN (decide (3 < L.length))
def mkR (L : List (List Int)) : List RU := rulesF (CN (decide (3 < L.length))) (RN (decide (3 < L.length))) L 3
def MKF (L : List (List Int)) (T : List TK) (R : List RU) : Prop := T = mkT L ∧ R = mkR L
theorem rulesF_next {C R : List ByteArray} {L : List (List Int)} {i : Nat} : rulesF C R L (i + 1) = rulesF C R L i ++ rowF C R L i := by
  unfold rulesF
  rw [List.range_succ, List.flatMap_append]
  simp
theorem rulesF_skip {C R : List ByteArray} {L : List (List Int)} {i : Nat} {l : List Int} (hl : L[i]? = some l) (h : l.length < 2) : rulesF C R L (i + 1) = rulesF C R L i := by
  rw [rulesF_next]; unfold rowF; rw [hl]; simp [h]
theorem rulesF_take {C R : List ByteArray} {L : List (List Int)} {i nn : Nat} {l : List Int} {k : Int} {fr : Bool} {Q : List ST} (hl : L[i]? = some l) (h : ¬ l.length < 2) (hk : k = l.getD 0 0) (hf : fr = (bits BinOp.and IntKind.i64 k 1 == 1)) (hn : nn = nnF k) (hq : Q = (List.range nn).map (stpF C R l)) :
    rulesF C R L i ++ [⟨10 + (i : Int), fr, Q⟩] = rulesF C R L (i + 1) := by
  rw [rulesF_next]; unfold rowF; rw [hl]; subst hk hf hn hq; simp only [h, if_false]; rfl
theorem rulesF_stop {C R : List ByteArray} {L : List (List Int)} {i : Nat} (h : L.length ≤ i) : ∀ d, rulesF C R L (i + d) = rulesF C R L i
  | 0 => rfl
  | d + 1 => by
    rw [← Nat.add_assoc, rulesF_next, rulesF_stop h d]; unfold rowF; rw [List.getElem?_eq_none (by omega)]; simp
theorem mkf_of {L : List (List Int)} {T : List TK} {C R : List ByteArray} {P : List RU} {i : Nat} (hF : T = TN (decide (3 < L.length)) ∧ C = CN (decide (3 < L.length)) ∧ R = RN (decide (3 < L.length))) (hP : P = rulesF C R L i) (hi : i ≤ 3) (he : L.length ≤ i ∨ i = 3) : MKF L T P := by
  obtain ⟨rfl, rfl, rfl⟩ := hF
  refine ⟨rfl, ?_⟩
  rw [hP]
  rcases he with h | rfl
  · unfold mkR; rw [show 3 = i + (3 - i) by omega, rulesF_stop h]
  · rfl
theorem stp_first {C R : List ByteArray} {l : List Int} {k : Int} {fr : Bool} {nn j : Nat} {p : PT} (hk : k = l.getD 0 0) (hf : fr = (bits BinOp.and IntKind.i64 k 1 == 1)) (hn : nn = nnF k) (hp : p = pcF C R l nn j) (hz : j = 0 ∧ fr = false) : [(⟨[], p⟩ : ST)] = List.map (stpF C R l) [j] := by
  subst hk hf hn hp
  simp only [List.map_cons, List.map_nil, stpF]
  rw [if_pos hz]
theorem stp_next {C R : List ByteArray} {l : List Int} {k : Int} {fr : Bool} {nn j : Nat} {p : PT} {ns : List ByteArray} (hk : k = l.getD 0 0) (hf : fr = (bits BinOp.and IntKind.i64 k 1 == 1)) (hn : nn = nnF k) (hp : p = pcF C R l nn j) (hz : ¬ (j = 0 ∧ fr = false)) (hs : ns = pickF C (wrap64 (k.tdiv 4))) : [(⟨ns, p⟩ : ST)] = List.map (stpF C R l) [j] := by
  subst hk hf hn hp hs
  simp only [List.map_cons, List.map_nil, stpF]
  rw [if_neg hz]
/-- what Make gives, as a function of its numbers -/
def MakeOKF : Prop := ∀ (L : List (List Int)) (vs : List Value) (lv : Value) (w : World), RowsI w lv vs L → (∀ l ∈ L, l.length ≤ 17592186044416) →
  Calls Tryz.prog 16 #[lv] w fun e w' => ∃ (T : List TK) (R : List RU) (tv rv : Value), e = .returned (.agg #[tv, rv]) ∧ TksAre w' tv T ∧ RusAre w' rv R ∧ MTok T ∧ (∀ r ∈ R, RGood T r) ∧ R.length ≤ 3 ∧ MKF L T R ∧ Below w.heap.size w w'
/-- g under way: its tokens, its rules so far; the names of its calls and returns -/
structure MG (w : World) (B p5 cb rb : Nat) (T : List TK) (C R : List ByteArray) (tv : Value) (n c : Nat) (o : Option Addr) (ps : List (RU × Value)) (wx : World) : Prop where
  len : ps.length = n
  good : ∀ p ∈ ps, RGood T p.1
  hres : wx.heap[w.heap.size]? = some (.cells #[.slice none 0 0, .slice none 0 0] 35 (0, 0))
  hg : wx.heap[p5]? = some (.cells #[tv, .slice o n c] 35 (0, 0))
  own : RuO (fun k => k ≠ p5 ∧ k ≠ w.heap.size) wx B (.slice o n c) ps
  st : KP (fun k => k < B ∧ k ≠ p5 ∧ k ≠ w.heap.size) wx (fun w' => TksAre w' tv T)
  hc : wx.heap[cb]? = some (.cells (strs C).toArray 9 (0, 0))
  hr : wx.heap[rb]? = some (.cells (strs R).toArray 9 (0, 0))
  bel : Below w.heap.size w wx
  hB : B ≤ wx.heap.size
  h5 : w.heap.size < p5
  h5B : p5 < B
  cB : cb < B
  rB : rb < B
theorem MG.moved {w wx wy : World} {B p5 cb rb n c : Nat} {T : List TK} {C R : List ByteArray} {tv : Value} {o : Option Addr} {ps : List (RU × Value)} (h : MG w B p5 cb rb T C R tv n c o ps wx) (hb : Below wx.heap.size wx wy) : MG w B p5 cb rb T C R tv n c o ps wy :=
  ⟨h.len, h.good, bel_get hb h.hres, bel_get hb h.hg, h.own.moved hb, h.st.to (.of hb), bel_get hb h.hc, bel_get hb h.hr, bel_then h.bel hb, Nat.le_trans h.hB hb.size, h.h5, h.h5B, h.cB, h.rB⟩
/-- which tokens go with which names -/
def MN (T : List TK) (C R : List ByteArray) : Prop := (T = T0 ∧ C = [nmO] ∧ R = [nmC]) ∨ (T = T6 ∧ C = [nmO, nmP] ∧ R = [nmC, nmQ])
theorem MN.tok {T : List TK} {C R : List ByteArray} (h : MN T C R) : MTok T := by rcases h with ⟨a, -⟩ | ⟨a, -⟩; exact .inl a; exact .inr a
theorem MN.calls {T : List TK} {C R : List ByteArray} (h : MN T C R) : ∀ ns, Sub ns C → Nm T 1 ns := by
  rcases h with ⟨rfl, rfl, -⟩ | ⟨rfl, rfl, -⟩
  · exact nm_calls0 (.inl rfl)
  · exact nm_calls6
theorem MN.rets {T : List TK} {C R : List ByteArray} (h : MN T C R) : ∀ ns, Sub ns R → Nm T 2 ns := by
  rcases h with ⟨rfl, -, rfl⟩ | ⟨rfl, -, rfl⟩
  · exact nm_rets0 (.inl rfl)
  · exact nm_rets6
theorem MN.lens {T : List TK} {C R : List ByteArray} (h : MN T C R) : (1 ≤ C.length ∧ C.length ≤ 2) ∧ (1 ≤ R.length ∧ R.length ≤ 2) := by
  rcases h with ⟨-, rfl, rfl⟩ | ⟨-, rfl, rfl⟩ <;> decide
/-- ahead of the rules: whatever the tokens -/
def MS (b : Bool) (w : World) (p5 : Nat) (s6 s7 : Value) (wx : World) : Prop := ∃ (cb rb : Nat) (T : List TK) (C R : List ByteArray) (tv : Value), s6 = .slice (some ⟨cb, 0, none⟩) C.length C.length ∧ s7 = .slice (some ⟨rb, 0, none⟩) R.length R.length ∧ MN T C R ∧ (T = TN b ∧ C = CN b ∧ R = RN b) ∧ MG w wx.heap.size p5 cb rb T C R tv 0 0 none [] wx
theorem ms_to {b b' : Bool} {w wx : World} {p5 : Nat} {s6 s7 : Value} (h : b' = b) (m : MS b' w p5 s6 s7 wx) : MS b w p5 s6 s7 wx := h ▸ m
theorem re_two {w : World} {k : Int} {p q : RE} {ps pl qs ql : Value} {b : Nat} (hp : ReIs w p ps pl) (hq : ReIs w q qs ql) (hb : w.heap[b]? = some (.cells #[.int .i64 p.kind, ps, pl, .int .i64 q.kind, qs, ql] 25 (0, 0))) : ReIs w (.mk k [] [p, q]) (.slice none 0 0) (.slice (some ⟨b, 0, none⟩) 2 2) := by
  refine .mk k [] _ _ _ [(p.kind, ps, pl), (q.kind, qs, ql)] (Row.nil w) (Row.owned (row_block (n := 2) (size := 3) hb rfl (by decide))) rfl ?_ ?_
  · intro i c r hc hr
    match i, hc, hr with
    | 0, hc, hr => cases hc; cases hr; rfl
    | 1, hc, hr => cases hc; cases hr; rfl
    | (n + 2), hc, hr => simp at hc
  · intro i c r hc hr
    match i, hc, hr with
    | 0, hc, hr => cases hc; cases hr; exact hp
    | 1, hc, hr => cases hc; cases hr; exact hq
    | (n + 2), hc, hr => simp at hc
/-- ahead of the 'if': four tokens -/
structure M4 (w : World) (p5 pt pa pb : Nat) (wx : World) : Prop where
  m : Mk0 w wx pt pa pb (w.heap.size + 1 + 1) (w.heap.size + 1 + 1 + 1 + 1)
  hres : wx.heap[w.heap.size]? = some (.cells #[.slice none 0 0, .slice none 0 0] 35 (0, 0))
  hg : wx.heap[p5]? = some (.cells #[.slice (some ⟨pt, 0, none⟩) 4 4, .slice none 0 0] 35 (0, 0))
  h5 : w.heap.size < p5
theorem M4.far {w wx : World} {p5 pt pa pb k : Nat} {cs : Array Value} {t : TypeId} {f : Nat × Nat} (h : M4 w p5 pt pa pb wx) (hk : wx.heap[k]? = some (.cells cs t f)) (ht : t ≠ 35) : k ≠ p5 ∧ k ≠ w.heap.size := ⟨type_far hk h.hg ht, type_far hk h.hres ht⟩
theorem M4.tko {w wx : World} {p5 pt pa pb : Nat} (h : M4 w p5 pt pa pb wx) : TkO (fun k => k ≠ p5 ∧ k ≠ w.heap.size) wx w.heap.size (.slice (some ⟨pt, 0, none⟩) 4 4) (ps0 pa pb (w.heap.size + 1 + 1) (w.heap.size + 1 + 1 + 1 + 1)) :=
  h.m.tkx (h.far h.m.ha (by decide)) (h.far h.m.hb (by decide)) (h.far h.m.hc (by decide)) (h.far h.m.hd (by decide))
theorem M4.moved {w wx wy : World} {p5 pt pa pb : Nat} (h : M4 w p5 pt pa pb wx) (hb : Below wx.heap.size wx wy) : M4 w p5 pt pa pb wy :=
  ⟨⟨bel_then h.m.bel hb, h.m.ge, bel_get hb h.m.ht, bel_get hb h.m.ha, bel_get hb h.m.hb, bel_get hb h.m.hc, bel_get hb h.m.hd⟩, bel_get hb h.hres, bel_get hb h.hg, h.h5⟩
theorem row_new2 {w : World} {e : TypeId} {g size : Nat} {cs : Array Value} (hs : cs.size = 2 * size) (hg : g = w.heap.size) : Row (w.alloc (.cells cs e)) (.slice (some ⟨g, 0, none⟩) 2 2) 2 cs.toList := by
  subst hg; exact Row.owned (row_block (n := 2) (size := size) (heap_alloc_new w _) hs (by decide))
/-- the result -/
theorem MG.fin {w wx : World} {B p5 cb rb n c : Nat} {T : List TK} {C R : List ByteArray} {tv : Value} {o : Option Addr} {ps : List (RU × Value)} (h : MG w B p5 cb rb T C R tv n c o ps wx) (hM : MN T C R) (hn : n ≤ 3) {L : List (List Int)} (hF : MKF L T (ps.map (·.1))) (a b : Value) :
    ∃ (T : List TK) (R : List RU) (tv' rv : Value), (tv = tv' ∧ .slice o n c = rv) ∧ TksAre ((wx.setCell ⟨w.heap.size, 0, none⟩ a).setCell ⟨w.heap.size, 1, none⟩ b) tv' T ∧ RusAre ((wx.setCell ⟨w.heap.size, 0, none⟩ a).setCell ⟨w.heap.size, 1, none⟩ b) rv R ∧ MTok T ∧ (∀ r : RU, r ∈ R → RGood T r) ∧ R.length ≤ 3 ∧ MKF L T R ∧
      Below w.heap.size w ((wx.setCell ⟨w.heap.size, 0, none⟩ a).setCell ⟨w.heap.size, 1, none⟩ b) := by
  have hN : (Value.slice o n c).ownBlock ≠ some w.heap.size := own_far h.own.row h.hres (by decide)
  have hlt : w.heap.size < B := by have := h.h5; have := h.h5B; omega
  refine ⟨T, ps.map (·.1), tv, _, ⟨rfl, rfl⟩, h.st _ (((Ag.refl _ _).setCell (fun h => h.2.2 rfl) _).setCell (fun h => h.2.2 rfl) _), ?_, hM.tok, ?_, by simp [h.len]; exact hn, hF, (h.bel.setCell (Nat.le_refl _) _).setCell (Nat.le_refl _) _⟩
  · exact RuO.are (h.own.ag (((Ag.refl _ _).setCell (fun h => h.elim (fun h => h.2 rfl) hN) _).setCell (fun h => h.elim (fun h => h.2 rfl) hN) _))
  · intro r hr
    obtain ⟨p, hp, rfl⟩ := List.mem_map.1 hr
    exact h.good p hp
/-- two tokens appended to four, in a region that draws -/
theorem step_tok2 {ops : Array Oper} {o : Oper} {a : Act} {K : Act → World → Prop} {Q : Exit → Act → World → Prop} {E : Prop} (s x : Operand) (B : Nat) {Y : World} {cs : Array Value} {g pt : Nat} {xs : List Value}
    (hgd : o.guard = none) (ho : o.op = .call { callee := .builtin .append, args := #[s, x], argTypes := #[32, 32] }) (hs : a.eval s = .slice (some ⟨pt, 0, none⟩) 4 4) (hx : a.eval x = .slice (some ⟨g, 0, none⟩) 2 2)
    (hown : Y.ownsRow B 61 6 (.slice (some ⟨pt, 0, none⟩) 4 4) 4 xs) (hcs : cs.size = 2 * 6) (hone : ∀ u ∈ cs.toList, u.oneCell' = true) (hg : g = Y.heap.size) (hB : B ≤ Y.heap.size)
    (h : ∀ o9 c9 w9, w9.ownsRow B 61 6 (.slice o9 6 c9) 6 (xs ++ cs.toList) → (Y.alloc (.cells cs 61)).drew.grownBy w9 (Value.slice (some ⟨pt, 0, none⟩) 4 4).ownBlock → (∀ k, (Value.slice o9 6 c9).ownBlock = some k → (Value.slice (some ⟨pt, 0, none⟩) 4 4).ownBlock = some k ∨ (Y.alloc (.cells cs 61)).drew.heap.size ≤ k) → Below B (Y.alloc (.cells cs 61)).drew w9 → K (a.put o.dst (.slice o9 6 c9)) w9) :
    if Region.wanted o (yielded ops a.tmps) = true then Oper.wp Tryz.prog o a (Y.alloc (.cells cs 61)).drew K Q else E := by
  obtain ⟨ii, hi, hz0, hz1, hz2⟩ := infoToken
  refine step_append_far _ hgd s x 32 ho B 61 ii _ 6 88 Tryz.underlying32 hi hz0 hz1 hz2 rfl (by decide) (.slice (some ⟨pt, 0, none⟩) 4 4) 4 xs hs (owns_drew (hown.alloc _)) _ 2 cs.toList hx (row_drew (row_new2 (size := 6) hcs hg)) (by simpa using hcs) hone (by unfold maxLen; omega) (by omega) (by simp; omega) ?_
  intro v9 w9 hown9 hg9 hf9 hb9
  obtain ⟨o9, c9, rfl⟩ := owns_slice hown9
  exact h o9 c9 w9 hown9 hg9 hf9 hb9
/-- behind the 'if' taken: six tokens -/
theorem ms_six {w X w9 w6 : World} {p5 pt pa pb q1 q2 qa c9 : Nat} {o9 : Option Addr} {news : List Value} (h : M4 w p5 pt pa pb X)
    (h1 : X.heap[q1]? = some (.cells #[.int .i64 2, .slice (some ⟨w.heap.size + 1 + 1, 0, none⟩) 1 1, .slice none 0 0, .int .i64 2, .slice (some ⟨w.heap.size + 1 + 1, 0, none⟩) 1 1, .slice none 0 0] 25 (0, 0)))
    (h2 : X.heap[q2]? = some (.cells #[.int .i64 2, .slice (some ⟨w.heap.size + 1 + 1 + 1 + 1, 0, none⟩) 1 1, .slice none 0 0, .int .i64 2, .slice (some ⟨qa, 0, none⟩) 1 1, .slice none 0 0] 25 (0, 0)))
    (ha : X.heap[qa]? = some (.cells #[.int .i32 97, .int .i32 97] 53 (0, 0)))
    (hown9 : w9.ownsRow w.heap.size 61 6 (.slice o9 6 c9) 6 ((t0cells pa pb (w.heap.size + 1 + 1) (w.heap.size + 1 + 1 + 1 + 1)).toList ++ news)) (hnews : news = six (tkP, .slice none 0 0, .slice (some ⟨q1, 0, none⟩) 2 2) ++ six (tkQ, .slice none 0 0, .slice (some ⟨q2, 0, none⟩) 2 2))
    (hg9 : X.grownBy w9 (Value.slice (some ⟨pt, 0, none⟩) 4 4).ownBlock) (hf9 : ∀ k, (Value.slice o9 6 c9).ownBlock = some k → (Value.slice (some ⟨pt, 0, none⟩) 4 4).ownBlock = some k ∨ X.heap.size ≤ k)
    (e6 : w6 = ((w9.setCell ⟨p5, 0, none⟩ (.slice o9 6 c9)).alloc (.cells #[.string ⟨#[111]⟩, .string ⟨#[112]⟩] 9)).alloc (.cells #[.string ⟨#[99]⟩, .string ⟨#[113]⟩] 9)) :
    MS true w p5 (.slice (some ⟨w9.heap.size, 0, none⟩) 2 2) (.slice (some ⟨w9.heap.size + 1, 0, none⟩) 2 2) w6 := by
  subst hnews
  have hN : (Value.slice (some ⟨pt, 0, none⟩) 4 4).ownBlock ≠ some p5 := own_far h.m.owns h.hg (by decide)
  have hNr : (Value.slice (some ⟨pt, 0, none⟩) 4 4).ownBlock ≠ some w.heap.size := own_far h.m.owns h.hres (by decide)
  have hp9 : w9.heap[p5]? = some (.cells #[.slice (some ⟨pt, 0, none⟩) 4 4, .slice none 0 0] 35 (0, 0)) := by
    rw [hg9.block p5 (hp_lt h.hg) (fun e => hN e.symm)]; exact h.hg
  have hr9 : w9.heap[w.heap.size]? = some (.cells #[.slice none 0 0, .slice none 0 0] 35 (0, 0)) := by
    rw [hg9.block _ (hp_lt h.hres) (fun e => hNr e.symm)]; exact h.hres
  have hN9 : (Value.slice o9 6 c9).ownBlock ≠ some p5 := own_far hown9 hp9 (by decide)
  have hN9r : (Value.slice o9 6 c9).ownBlock ≠ some w.heap.size := own_far hown9 hr9 (by decide)
  have hkb : ∀ {k : Nat} {cs : Array Value} {t : TypeId} {f : Nat × Nat}, X.heap[k]? = some (.cells cs t f) → t ≠ 35 → t ≠ 61 → KP (fun k => (k ≠ p5 ∧ k ≠ w.heap.size) ∧ (Value.slice (some ⟨pt, 0, none⟩) 4 4).ownBlock ≠ some k) X (fun w' => w'.heap[k]? = some (.cells cs t f)) :=
    fun hk ht ht2 => KP.block hk ⟨h.far hk ht, own_far h.m.owns hk (fun e => ht2 e.symm)⟩
  have hpush := h.tko.pushes (w' := w9) (v' := .slice o9 6 c9) (qs := [(tkP, .slice none 0 0, .slice (some ⟨q1, 0, none⟩) 2 2), (tkQ, .slice none 0 0, .slice (some ⟨q2, 0, none⟩) 2 2)]) hown9 hg9 hf9 (fun p hp => by
    simp only [List.mem_cons, List.not_mem_nil, or_false] at hp
    rcases hp with rfl | rfl
    · exact kp_and (hkb h1 (by decide) (by decide)) (hkb h.m.hc (by decide) (by decide)) (fun w' a b => re_two (k := 3) (p := .mk 2 [(99, 99)] []) (q := .mk 2 [(99, 99)] []) (re_set [(99, 99)] 1 rfl (by decide) b) (re_set [(99, 99)] 1 rfl (by decide) b) a)
    · exact kp_and (kp_and (hkb h2 (by decide) (by decide)) (hkb h.m.hd (by decide) (by decide)) (fun w' a b => And.intro a b)) (hkb ha (by decide) (by decide)) (fun w' a b => re_two (k := 3) (p := .mk 2 [(100, 100)] []) (q := .mk 2 [(97, 97)] []) (re_set [(100, 100)] 1 rfl (by decide) a.2) (re_set [(97, 97)] 1 rfl (by decide) b) a.1))
  have hset := hpush.ag (w' := w9.setCell ⟨p5, 0, none⟩ (.slice o9 6 c9)) ((Ag.refl _ _).setCell (fun h => h.elim (fun h => h.1 rfl) hN9) _)
  have hb6 : Below (w9.setCell ⟨p5, 0, none⟩ (.slice o9 6 c9)).heap.size (w9.setCell ⟨p5, 0, none⟩ (.slice o9 6 c9)) w6 := by rw [e6]; exact bel_new (bel_new (Below.refl _ _) _) _
  have hs5 : (w9.setCell ⟨p5, 0, none⟩ (.slice o9 6 c9)).heap.size = w9.heap.size := by simp [World.setCell]
  have hal := allocs_heap [.cells #[.string ⟨#[111]⟩, .string ⟨#[112]⟩] 9, .cells #[.string ⟨#[99]⟩, .string ⟨#[113]⟩] 9] (w9.setCell ⟨p5, 0, none⟩ (.slice o9 6 c9))
  rw [hs5] at hal
  have hg5 : (w9.setCell ⟨p5, 0, none⟩ (.slice o9 6 c9)).heap[p5]? = some (.cells #[.slice o9 6 c9, .slice none 0 0] 35 (0, 0)) := by simp [World.setCell, Array.getElem?_modify, hp9]
  have hr5 : (w9.setCell ⟨p5, 0, none⟩ (.slice o9 6 c9)).heap[w.heap.size]? = some (.cells #[.slice none 0 0, .slice none 0 0] 35 (0, 0)) := by
    rw [Below.heap_setCell _ _ _ _ (show w.heap.size ≠ p5 by have := h.h5; omega)]; exact hr9
  have hK := (tko_kpx hset (fun k e => ⟨fun e2 => hN9 (e2 ▸ e), fun e2 => hN9r (e2 ▸ e)⟩)).to (.of hb6)
  have hgl := hp_lt hg5
  have hsz : w6.heap.size = w9.heap.size + 2 := by rw [e6]; simp [hs5]
  have hpX := h.m.bel.size
  have hbel : Below w.heap.size w w9 := h.m.bel.grown hg9 hpX (fun k hk => by have := h.m.ge; simp [Value.ownBlock] at hk; omega)
  refine ⟨w9.heap.size, w9.heap.size + 1, T6, [nmO, nmP], [nmC, nmQ], .slice o9 6 c9, rfl, rfl, .inr ⟨rfl, rfl, rfl⟩, ⟨rfl, rfl, rfl⟩, ?_⟩
  refine ⟨rfl, fun p h => by simp at h, bel_get hb6 hr5, bel_get hb6 hg5, Own.nil, hK.sub (fun k hk h => ⟨hk, h⟩), ?_, ?_, bel_then (hbel.setCell (show w.heap.size ≤ p5 by have := h.h5; omega) _) hb6, Nat.le_refl _, h.h5, by omega, by omega, by omega⟩
  · rw [e6]; exact hal 0 (by simp)
  · rw [e6]; exact hal 1 (by simp)
theorem ms_six5 {w W4 w9 w6 : World} {a b c d e : Obj} {p5 pt pa pb q1 q2 qa c9 : Nat} {o9 : Option Addr} {news : List Value} (h : M4 w p5 pt pa pb W4)
    (hx : ∀ X : World, (X.heap[W4.heap.size]? = some a ∧ X.heap[W4.heap.size + 1]? = some b ∧ X.heap[W4.heap.size + 1 + 1]? = some c ∧ X.heap[W4.heap.size + 1 + 1 + 1]? = some d ∧ X.heap[W4.heap.size + 1 + 1 + 1 + 1]? = some e ∧ Below W4.heap.size W4 X) →
      X.heap[q1]? = some (.cells #[.int .i64 2, .slice (some ⟨w.heap.size + 1 + 1, 0, none⟩) 1 1, .slice none 0 0, .int .i64 2, .slice (some ⟨w.heap.size + 1 + 1, 0, none⟩) 1 1, .slice none 0 0] 25 (0, 0)) ∧
      X.heap[q2]? = some (.cells #[.int .i64 2, .slice (some ⟨w.heap.size + 1 + 1 + 1 + 1, 0, none⟩) 1 1, .slice none 0 0, .int .i64 2, .slice (some ⟨qa, 0, none⟩) 1 1, .slice none 0 0] 25 (0, 0)) ∧
      X.heap[qa]? = some (.cells #[.int .i32 97, .int .i32 97] 53 (0, 0)))
    (hown9 : w9.ownsRow w.heap.size 61 6 (.slice o9 6 c9) 6 ((t0cells pa pb (w.heap.size + 1 + 1) (w.heap.size + 1 + 1 + 1 + 1)).toList ++ news)) (hnews : news = six (tkP, .slice none 0 0, .slice (some ⟨q1, 0, none⟩) 2 2) ++ six (tkQ, .slice none 0 0, .slice (some ⟨q2, 0, none⟩) 2 2))
    (hg9 : ((((((W4.alloc a).alloc b).alloc c).alloc d).alloc e).drew).grownBy w9 (Value.slice (some ⟨pt, 0, none⟩) 4 4).ownBlock)
    (hf9 : ∀ k, (Value.slice o9 6 c9).ownBlock = some k → (Value.slice (some ⟨pt, 0, none⟩) 4 4).ownBlock = some k ∨ ((((((W4.alloc a).alloc b).alloc c).alloc d).alloc e).drew).heap.size ≤ k)
    (e6 : w6 = ((w9.setCell ⟨p5, 0, none⟩ (.slice o9 6 c9)).alloc (.cells #[.string ⟨#[111]⟩, .string ⟨#[112]⟩] 9)).alloc (.cells #[.string ⟨#[99]⟩, .string ⟨#[113]⟩] 9)) :
    MS true w p5 (.slice (some ⟨w9.heap.size, 0, none⟩) 2 2) (.slice (some ⟨w9.heap.size + 1, 0, none⟩) 2 2) w6 := by
  have hch := chain5 W4 a b c d e
  obtain ⟨h1, h2, ha⟩ := hx _ hch
  exact ms_six (h.moved hch.2.2.2.2.2) h1 h2 ha hown9 hnews hg9 hf9 e6
/-- r under way: its steps so far -/
structure MI (wq : World) (P : Nat → Prop) (T : List TK) (cls : Int) (fr : Bool) (j c2 : Nat) (o2 : Option Addr) (qs : List (ST × Value × Value × Value × Value)) (wx : World) : Prop where
  bel : Below wq.heap.size wq wx
  hr : wx.heap[wq.heap.size]? = some (.cells #[.int .i64 cls, .bool fr, .slice o2 j c2] 64 (0, 0))
  own : StO (fun k => k ≠ wq.heap.size ∧ P k) wx wq.heap.size (.slice o2 j c2) qs
  len : qs.length = j
  good : ∀ (i : Nat) (q : ST × Value × Value × Value × Value), qs[i]? = some q → SGood T (decide (i = 0) && !fr) q.1
theorem MI.start {wq : World} {P : Nat → Prop} {T : List TK} {cls : Int} {fr : Bool} : MI wq P T cls fr 0 0 none [] (wq.alloc (.cells #[.int .i64 cls, .bool fr, .slice none 0 0] 64)) :=
  ⟨bel_new (Below.refl _ _) _, heap_alloc_new wq _, Own.nil, rfl, fun i q h => by simp at h⟩
theorem MI.moved {wq wx wy : World} {P : Nat → Prop} {T : List TK} {cls : Int} {fr : Bool} {j c2 : Nat} {o2 : Option Addr} {qs : List (ST × Value × Value × Value × Value)} (h : MI wq P T cls fr j c2 o2 qs wx) (hb : Below wx.heap.size wx wy) : MI wq P T cls fr j c2 o2 qs wy :=
  ⟨bel_then h.bel hb, bel_get hb h.hr, h.own.moved hb, h.len, h.good⟩
/-- a row of names in a block of their own -/
theorem names_kp {S : Nat → Prop} {w : World} {b : Nat} {l : List ByteArray} (h : w.heap[b]? = some (.cells (strs l).toArray 9 (0, 0))) (hb : S b) (hl : 1 ≤ l.length) (hl2 : l.length ≤ 2) : KP S w (fun w' => Row w' (.slice (some ⟨b, 0, none⟩) l.length l.length) l.length (strs l)) :=
  (KP.block h hb).mono fun w' h' => Row.owned (row_block (n := l.length) (size := 1) h' (by simp [strs]) (by unfold maxLen; omega))
theorem me_at {w wx X : World} {B p5 cb rb n c ib : Nat} {T : List TK} {C R : List ByteArray} {tv : Value} {o : Option Addr} {ps : List (RU × Value)} (h : MG w B p5 cb rb T C R tv n c o ps wx) (hM : MN T C R) (hX : Below wx.heap.size wx X) (hib : X.heap[ib]? = some (.cells #[.string ⟨#[97]⟩, .string ⟨#[98]⟩] 9 (0, 0))) :
    ME T X (.slice (some ⟨ib, 0, none⟩) 2 2) (.slice (some ⟨cb, 0, none⟩) C.length C.length) (.slice (some ⟨rb, 0, none⟩) R.length R.length) [nmA, nmB] C R := by
  have hl := hM.lens
  have hc := bel_get hX h.hc
  have hr := bel_get hX h.hr
  exact ⟨names_kp (l := [nmA, nmB]) hib (.inr ⟨_, _, hib⟩) (by decide) (by decide), names_kp hc (.inr ⟨_, _, hc⟩) hl.1.1 hl.1.2, names_kp hr (.inr ⟨_, _, hr⟩) hl.2.1 hl.2.2, by decide, hl.1, hl.2, nm_ins hM.tok, hM.calls, hM.rets⟩
/-- numbers of a made-up rule -/
theorem mk_num (k : Int) : ∃ nn : Nat, (1 ≤ nn ∧ nn ≤ 2) ∧ wrap64 (1 + wrap64 ((IntKind.u64.wrap ((IntKind.u64.wrap k).tdiv 2)).tmod 2)) = (nn : Int) ∧ nn = nnF k := by
  obtain ⟨m, hm, em⟩ := u64_mod' ((IntKind.u64.wrap k).tdiv 2) 2 (by omega) (by omega)
  have em' : (IntKind.u64.wrap ((IntKind.u64.wrap k).tdiv 2)).tmod 2 = (m : Int) := em
  suffices key : wrap64 (1 + wrap64 ((IntKind.u64.wrap ((IntKind.u64.wrap k).tdiv 2)).tmod 2)) = ((1 + m : Nat) : Int) from
    ⟨1 + m, by omega, key, by unfold nnF; rw [key]; omega⟩
  rw [em', show wrap64 (m : Int) = (m : Int) from IntWalk.wrap64_in _ (by omega)]
  rw [show wrap64 (1 + (m : Int)) = 1 + (m : Int) from IntWalk.wrap64_in _ (by omega)]
  omega
theorem infoInt : ∃ i, Tryz.prog.info? 3 = some i ∧ i.zero = some (.int .i64 0) ∧ i.size = 1 ∧ i.bytes = 8 := info_parts (by kernel_rfl)
theorem elemInts : Tryz.prog.elem 42 = 3 := by kernel_rfl
theorem undInts : Tryz.prog.underlying 42 = some (.slice (Tryz.prog.elem 42)) := by rw [elemInts]; exact Tryz.underlying42
theorem sizeInts (w' : World) : (sizeOf (Tryz.prog.elem 42)).run Tryz.prog w' = .ok 1 w' := by
  obtain ⟨i0, hi, hz0, hz1, hz2⟩ := infoInt
  rw [elemInts]; simp [sizeOf, run_typeInfo _ hi, hz1, go_sem]
theorem cutI_m (o : Option Addr) (cap n : Nat) (cs : List Value) (hcs : cs.length = n) (i j : Nat) (hi : i ≤ j) (hj : j ≤ n) (hc : n ≤ cap) : ∃ o1 c1,
    (∀ w' : World, (Instr.sliceAt 42 (.slice o n cap) (some (.int .i64 i)) (some (.int .i64 j)) none).run Tryz.prog w' = .ok (.slice o1 (j - i) c1) w') ∧
      ∀ w', Row w' (.slice o n cap) n cs → Row w' (.slice o1 (j - i) c1) (j - i) ((cs.drop i).take (j - i)) := by
  have e1 : ((i : Int)).toNat = i := by simp
  have e2 : ((j : Int)).toNat = j := by simp
  refine ⟨(if cap = i then o else o.map (·.add (i * 1))), cap - i, fun w' => ?_, fun w' hr => ?_⟩
  · rw [run_sliceAt_slice _ _ _ _ _ _ undInts, run_slice_lh w' 42 o n cap undInts .i64 .i64 (i : Int) (j : Int) (by omega) (by omega) (by omega), sizeInts]
    rw [Result.andThen_ok, e1, e2]
    unfold Go.sliced
    rfl
  · have h := hr.sliced hcs hi hj
    unfold Go.sliced at h
    exact h
/-- two rows of unlike types -/
theorem own_own {w : World} {B B' size size' n n' k : Nat} {e e' : TypeId} {v v' : Value} {xs xs' : List Value} (h : w.ownsRow B e size v n xs) (h' : w.ownsRow B' e' size' v' n' xs') (he : e ≠ e') (hk : v.ownBlock = some k) : v'.ownBlock ≠ some k := by
  rcases h.2 with ⟨rfl, -⟩ | ⟨g, cap, cur, rfl, hb, hgg, rest⟩
  · simp [Value.ownBlock] at hk
  · simp [Value.ownBlock] at hk
    subst hk
    exact own_far h' hgg (fun e2 => he e2.symm)
theorem MI.step {wo wx X w9 : World} {P : Nat → Prop} {T : List TK} {cls : Int} {fr : Bool} {j c2 c9 : Nat} {o2 o9 : Option Addr} {qs : List (ST × Value × Value × Value × Value)} {news : List Value} {st : ST} {cv nv ev pv : Value} (h : MI wo P T cls fr j c2 o2 qs wx)
    (hX : Below wx.heap.size wx X)
    (hp : KP (fun k => (k ≠ wo.heap.size ∧ P k) ∧ (Value.slice o2 j c2).ownBlock ≠ some k) X (fun w' => Row w' cv st.calls.length (strs st.calls) ∧ PtIs w' st.p nv ev pv)) (hgood : SGood T (decide (j = 0) && !fr) st)
    (hown9 : w9.ownsRow wo.heap.size 66 5 (.slice o9 (j + 1) c9) (j + 1) (qs.flatMap five ++ news)) (hnews : news = five (st, cv, nv, ev, pv))
    (hg9 : X.grownBy w9 (Value.slice o2 j c2).ownBlock) (hf9 : ∀ k, (Value.slice o9 (j + 1) c9).ownBlock = some k → (Value.slice o2 j c2).ownBlock = some k ∨ X.heap.size ≤ k) :
    ∃ qs', MI wo P T cls fr (j + 1) c9 o9 qs' (w9.setCell ⟨wo.heap.size, 2, none⟩ (.slice o9 (j + 1) c9)) ∧ qs'.map (·.1) = qs.map (·.1) ++ [st] := by
  subst hnews
  have hownX := h.own.moved hX
  have hrow := h.own.row
  have hpl := hp_lt h.hr
  have hN : (Value.slice o2 j c2).ownBlock ≠ some wo.heap.size := own_far hrow h.hr (by decide)
  have hp9 : w9.heap[wo.heap.size]? = some (.cells #[.int .i64 cls, .bool fr, .slice o2 j c2] 64 (0, 0)) := by
    rw [hg9.block _ (by have := hX.size; omega) (fun e => hN e.symm)]; exact bel_get hX h.hr
  have hN9 : (Value.slice o9 (j + 1) c9).ownBlock ≠ some wo.heap.size := own_far hown9 hp9 (by decide)
  have hpush := hownX.push (w' := w9) (v' := .slice o9 (j + 1) c9) (p := (st, cv, nv, ev, pv)) (by rw [h.len]; exact hown9) hg9 hf9 hp
  have hbX := bel_then h.bel hX
  refine ⟨qs ++ [(st, cv, nv, ev, pv)], ⟨?_, by simp [World.setCell, Array.getElem?_modify, hp9], ?_, by simp [h.len], ?_⟩, by simp⟩
  · exact (hbX.grown hg9 hbX.size (fun k hk => (hrow.lt k hk).1)).setCell (Nat.le_refl _) _
  · exact hpush.ag ((Ag.refl _ _).setCell (fun h => h.elim (fun h => h.1 rfl) hN9) _)
  · intro i q hq
    rcases Nat.lt_or_ge i qs.length with hi | hi
    · rw [List.getElem?_append_left hi] at hq; exact h.good i q hq
    · rw [List.getElem?_append_right hi] at hq
      have h0 : i - qs.length = 0 := by
        have := (List.getElem?_eq_some_iff.1 hq).1
        simp at this; omega
      rw [h0] at hq
      simp at hq
      subst hq
      have : i = j := by have := h.len; omega
      subst this
      exact hgood
theorem MG.step {w wo wx X w9 : World} {B p5 cb rb n c c2 c9 nn : Nat} {T : List TK} {C R : List ByteArray} {tv : Value} {cls : Int} {fr : Bool} {o o2 o9 : Option Addr} {ps : List (RU × Value)} {qs : List (ST × Value × Value × Value × Value)} {news : List Value} (h : MG w B p5 cb rb T C R tv n c o ps wx)
    (hI : MI wo (fun k => k ≠ p5 ∧ k ≠ w.heap.size ∧ (Value.slice o n c).ownBlock ≠ some k) T cls fr nn c2 o2 qs wx) (hcls : 0 ≤ cls ∧ cls ≤ 31) (hnn : 1 ≤ nn ∧ nn ≤ 2) (hX : Below wx.heap.size wx X)
    (hown9 : w9.ownsRow B 64 3 (.slice o9 (n + 1) c9) (n + 1) (ps.flatMap three ++ news)) (hnews : news = three (⟨cls, fr, qs.map (·.1)⟩, .slice o2 nn c2))
    (hg9 : X.grownBy w9 (Value.slice o n c).ownBlock) (hf9 : ∀ k, (Value.slice o9 (n + 1) c9).ownBlock = some k → (Value.slice o n c).ownBlock = some k ∨ X.heap.size ≤ k) :
    ∃ ps', MG w B p5 cb rb T C R tv (n + 1) c9 o9 ps' (w9.setCell ⟨p5, 1, none⟩ (.slice o9 (n + 1) c9)) ∧ ps'.map (·.1) = ps.map (·.1) ++ [⟨cls, fr, qs.map (·.1)⟩] := by
  subst hnews
  have hX' := hX.size
  have hG := h.moved hX
  have hrow := hG.own.row
  have hN : (Value.slice o n c).ownBlock ≠ some p5 := own_far hrow hG.hg (by decide)
  have hNr : (Value.slice o n c).ownBlock ≠ some w.heap.size := own_far hrow hG.hres (by decide)
  have hp9 : w9.heap[p5]? = some (.cells #[tv, .slice o n c] 35 (0, 0)) := by
    rw [hg9.block _ (hp_lt hG.hg) (fun e => hN e.symm)]; exact hG.hg
  have hr9 : w9.heap[w.heap.size]? = some (.cells #[.slice none 0 0, .slice none 0 0] 35 (0, 0)) := by
    rw [hg9.block _ (hp_lt hG.hres) (fun e => hNr e.symm)]; exact hG.hres
  have hN9 : (Value.slice o9 (n + 1) c9).ownBlock ≠ some p5 := own_far hown9 hp9 (by decide)
  have hst := hI.own.moved hX
  have hsts : KP (fun k => (k ≠ p5 ∧ k ≠ w.heap.size) ∧ (Value.slice o n c).ownBlock ≠ some k) X (fun w' => StsAre w' (.slice o2 nn c2) (qs.map (·.1))) := fun w' h' => by
    refine StO.are (hst.ag (h'.sub fun k hk hS => ?_))
    rcases hS with hS | hS
    · exact ⟨⟨hS.2.1, hS.2.2.1⟩, hS.2.2.2⟩
    · exact ⟨⟨fun e => own_far hst.row hG.hg (by decide) (e ▸ hS), fun e => own_far hst.row hG.hres (by decide) (e ▸ hS)⟩, own_own hst.row hrow (by decide) hS⟩
  have hpush := hG.own.push (w' := w9) (v' := .slice o9 (n + 1) c9) (p := (⟨cls, fr, qs.map (·.1)⟩, .slice o2 nn c2)) (by rw [hG.len]; exact hown9) hg9 hf9 hsts
  have hgo : RGood T ⟨cls, fr, qs.map (·.1)⟩ := by
    refine ⟨hcls, by simp [hI.len]; exact hnn, fun i s hs => ?_⟩
    rw [List.getElem?_map] at hs
    obtain ⟨q, hq, rfl⟩ := Option.map_eq_some_iff.1 hs
    exact hI.good i q hq
  have hag : Ag (fun k => k < B ∧ k ≠ p5 ∧ k ≠ w.heap.size) X (w9.setCell ⟨p5, 1, none⟩ (.slice o9 (n + 1) c9)) :=
    ((Ag.refl _ _).grown hg9 (fun k hk hS => by have := (hrow.lt k hk).1; omega)).setCell (fun h => h.2.1 rfl) _
  have hblk : ∀ {k : Nat} {ob : Obj}, X.heap[k]? = some ob → k < B → k ≠ p5 → (w9.setCell ⟨p5, 1, none⟩ (.slice o9 (n + 1) c9)).heap[k]? = some ob := fun hk hB h5 => by
    rw [Below.heap_setCell _ _ _ _ (show _ ≠ p5 from h5), hg9.block _ (hp_lt hk) (fun e => by have := (hrow.lt _ e.symm).1; omega)]; exact hk
  have h5 := h.h5
  refine ⟨ps ++ [(⟨cls, fr, qs.map (·.1)⟩, .slice o2 nn c2)], ⟨by simp [h.len], ?_, ?_, by simp [World.setCell, Array.getElem?_modify, hp9], ?_, hG.st.to hag, hblk hG.hc h.cB (type_far hG.hc hG.hg (by decide)), hblk hG.hr h.rB (type_far hG.hr hG.hg (by decide)), ?_, ?_, h.h5, h.h5B, h.cB, h.rB⟩, by simp⟩
  · intro p hp
    rcases List.mem_append.1 hp with h1 | h1
    · exact h.good p h1
    · simp at h1; subst h1; exact hgo
  · rw [Below.heap_setCell _ _ _ _ (show w.heap.size ≠ p5 by omega)]; exact hr9
  · exact hpush.ag ((Ag.refl _ _).setCell (fun h => h.elim (fun h => h.1 rfl) hN9) _)
  · exact (hG.bel.grown hg9 hG.bel.size (fun k hk => by have := (hrow.lt k hk).1; have := h.h5B; omega)).setCell (show w.heap.size ≤ p5 by omega) _
  · have := hg9.size; have := h.hB; simp [World.setCell]; omega
theorem cb_far {w wo wx : World} {B p5 cb rb n c j c2 : Nat} {T : List TK} {C R : List ByteArray} {tv : Value} {cls : Int} {fr : Bool} {o o2 : Option Addr} {ps : List (RU × Value)} {qs : List (ST × Value × Value × Value × Value)} (h : MG w B p5 cb rb T C R tv n c o ps wx)
    (hI : MI wo (fun k => k ≠ p5 ∧ k ≠ w.heap.size ∧ (Value.slice o n c).ownBlock ≠ some k) T cls fr j c2 o2 qs wx) (hB : B ≤ wo.heap.size) :
    (cb ≠ wo.heap.size ∧ cb ≠ p5 ∧ cb ≠ w.heap.size ∧ (Value.slice o n c).ownBlock ≠ some cb) ∧ (Value.slice o2 j c2).ownBlock ≠ some cb := by
  have hc := h.cB
  exact ⟨⟨by omega, type_far h.hc h.hg (by decide), type_far h.hc h.hres (by decide), own_far h.own.row h.hc (by decide)⟩, own_far hI.own.row h.hc (by decide)⟩
/-- behind the step's pattern: what was there stays, and the pattern's parts lie apart from what is written later -/
theorem reg17 {w wo wr wcall w3 wx : World} {B p5 cb rb n c j c2 pst : Nat} {T : List TK} {C R : List ByteArray} {tv : Value} {cls : Int} {fr : Bool} {o o2 : Option Addr} {ps : List (RU × Value)} {qs : List (ST × Value × Value × Value × Value)} {F : World → Prop} (h : MG w B p5 cb rb T C R tv n c o ps wr)
    (hI : MI wo (fun k => k ≠ p5 ∧ k ≠ w.heap.size ∧ (Value.slice o n c).ownBlock ≠ some k) T cls fr j c2 o2 qs wr) (hc : Below wr.heap.size wr wcall) (hb3 : Below wcall.heap.size wcall w3) (hkp : KP (SZ wcall) w3 F)
    (hag : Ag (fun k => k ≠ pst) w3 wx) (hps : wr.heap.size ≤ pst) (hns : ∀ k, k < w3.heap.size → SZ wcall k → k ≠ pst) :
    Below wr.heap.size wr wx ∧ KP (fun k => ((k ≠ wo.heap.size ∧ k ≠ p5 ∧ k ≠ w.heap.size ∧ (Value.slice o n c).ownBlock ≠ some k) ∧ (Value.slice o2 j c2).ownBlock ≠ some k) ∧ k ≠ pst) wx F := by
  have h1 := bel_then hc hb3
  have hs1 := h1.size
  have hs2 := hc.size
  have hGc := h.moved hc
  have hIc := hI.moved hc
  have hw := hp_lt h.hres
  have h5 := hp_lt h.hg
  have hr := hp_lt hI.hr
  refine ⟨h1.trans (hag.below (by omega) (fun k hk => by omega)), fun w' h' => ?_⟩
  refine hkp w' ⟨h'.os.trans hag.os, h'.tape.trans hag.tape, h'.output.trans hag.output, Nat.le_trans hag.size h'.size, fun k hk hS => ?_⟩
  have hkp' := hns k hk hS
  rw [h'.block k (Nat.lt_of_lt_of_le hk hag.size) ⟨?_, hkp'⟩]
  · exact hag.block k hk hkp'
  · rcases hS with hS | ⟨cs, f, hS⟩
    · exact ⟨⟨by omega, by omega, by omega, fun e => by have := (h.own.row.lt k e).2; omega⟩, fun e => by have := (hI.own.row.lt k e).2; omega⟩
    · exact ⟨⟨type_far hS hIc.hr (by decide), type_far hS hGc.hg (by decide), type_far hS hGc.hres (by decide), own_far hGc.own.row hS (by decide)⟩, own_far hIc.own.row hS (by decide)⟩
theorem al_one (w : World) (a : Obj) : (w.alloc a).drew.heap[w.heap.size]? = some a := by rw [drew_heap]; exact heap_alloc_new w a
theorem al_snd' (w : World) (a b : Obj) : ((w.alloc a).alloc b).drew.heap[w.heap.size + 1]? = some b := by
  have := heap_alloc_new (w.alloc a) b
  rw [drew_heap]
  simpa using this
theorem not_sz {w : World} {k b : Nat} {cs : Array Value} {t : TypeId} {f : Nat × Nat} (h : w.heap[b]? = some (.cells cs t f)) (ht : t ≠ 9) (hk : SZ w k) : k ≠ b := by
  rintro rfl
  rcases hk with hk | ⟨cs', f', hk⟩
  · have := hp_lt h; omega
  · rw [h] at hk; exact ht (by cases hk; rfl)
theorem set_five {w : World} {p : Nat} {x0 x1 x2 x3 x4 : Value} {t : TypeId} (a b c d e : Value) (h : w.heap[p]? = some (.cells #[x0, x1, x2, x3, x4] t (0, 0))) :
    (((((w.setCell ⟨p, 0, none⟩ a).setCell ⟨p, 1, none⟩ b).setCell ⟨p, 2, none⟩ c).setCell ⟨p, 3, none⟩ d).setCell ⟨p, 4, none⟩ e).heap[p]? = some (.cells #[a, b, c, d, e] t (0, 0)) := by
  simp [World.setCell, Array.getElem?_modify, h]
theorem reg17_new {w wo wr wcall w3 : World} {B p5 cb rb n c j c2 : Nat} {T : List TK} {C R : List ByteArray} {tv : Value} {cls : Int} {fr : Bool} {o o2 : Option Addr} {ps : List (RU × Value)} {qs : List (ST × Value × Value × Value × Value)} {p : PT} {nv ev pv : Value} (h : MG w B p5 cb rb T C R tv n c o ps wr)
    (hI : MI wo (fun k => k ≠ p5 ∧ k ≠ w.heap.size ∧ (Value.slice o n c).ownBlock ≠ some k) T cls fr j c2 o2 qs wr) (hc : Below wr.heap.size wr wcall) (hb3 : Below wcall.heap.size wcall w3) (hkp : KP (SZ wcall) w3 (fun w2 => PtIs w2 p nv ev pv)) {PF : PT} (hp : PGood T p ∧ p = PF) :
    ∃ (pst : Nat) (p' : PT) (nv' ev' pv' : Value), Value.pointer (some ⟨w3.heap.size, 0, none⟩) = .pointer (some ⟨pst, 0, none⟩) ∧ (w3.alloc (.cells #[.slice none 0 0, .int .i64 p.kind, nv, ev, pv] 66)).heap[pst]? = some (.cells #[.slice none 0 0, .int .i64 p'.kind, nv', ev', pv'] 66 (0, 0)) ∧ wr.heap.size ≤ pst ∧ Below wr.heap.size wr (w3.alloc (.cells #[.slice none 0 0, .int .i64 p.kind, nv, ev, pv] 66)) ∧ (PGood T p' ∧ p' = PF) ∧ KP (fun k => ((k ≠ wo.heap.size ∧ k ≠ p5 ∧ k ≠ w.heap.size ∧ (Value.slice o n c).ownBlock ≠ some k) ∧ (Value.slice o2 j c2).ownBlock ≠ some k) ∧ k ≠ pst) (w3.alloc (.cells #[.slice none 0 0, .int .i64 p.kind, nv, ev, pv] 66)) (fun w' => PtIs w' p' nv' ev' pv') := by
  have hs1 := (bel_then hc hb3).size
  have hr := reg17 (pst := w3.heap.size) (wx := w3.alloc (.cells #[.slice none 0 0, .int .i64 p.kind, nv, ev, pv] 66)) h hI hc hb3 hkp ((Ag.refl _ w3).alloc _) hs1 (fun k hk _ => by omega)
  exact ⟨w3.heap.size, p, nv, ev, pv, rfl, heap_alloc_new w3 _, hs1, hr.1, hp, hr.2⟩
theorem reg17_old {w wo wr wcall w3 : World} {B p5 cb rb n c j c2 : Nat} {T : List TK} {C R : List ByteArray} {tv : Value} {cls : Int} {fr : Bool} {o o2 : Option Addr} {ps : List (RU × Value)} {qs : List (ST × Value × Value × Value × Value)} {p : PT} {nv ev pv : Value} (h : MG w B p5 cb rb T C R tv n c o ps wr)
    (hI : MI wo (fun k => k ≠ p5 ∧ k ≠ w.heap.size ∧ (Value.slice o n c).ownBlock ≠ some k) T cls fr j c2 o2 qs wr) (hc : Below wr.heap.size wr wcall) (hb3 : Below wcall.heap.size wcall w3) (hkp : KP (SZ wcall) w3 (fun w2 => PtIs w2 p nv ev pv)) {PF : PT} (hp : PGood T p ∧ p = PF) {q : Nat} {x0 x1 x2 x3 x4 : Value} (hq : wcall.heap[q]? = some (.cells #[x0, x1, x2, x3, x4] 66 (0, 0))) (hqr : wr.heap.size ≤ q) :
    ∃ (pst : Nat) (p' : PT) (nv' ev' pv' : Value), Value.pointer (some ⟨q, 0, none⟩) = .pointer (some ⟨pst, 0, none⟩) ∧ (((((w3.setCell ⟨q, 0, none⟩ (.slice none 0 0)).setCell ⟨q, 1, none⟩ (.int .i64 p.kind)).setCell ⟨q, 2, none⟩ nv).setCell ⟨q, 3, none⟩ ev).setCell ⟨q, 4, none⟩ pv).heap[pst]? = some (.cells #[.slice none 0 0, .int .i64 p'.kind, nv', ev', pv'] 66 (0, 0)) ∧ wr.heap.size ≤ pst ∧ Below wr.heap.size wr (((((w3.setCell ⟨q, 0, none⟩ (.slice none 0 0)).setCell ⟨q, 1, none⟩ (.int .i64 p.kind)).setCell ⟨q, 2, none⟩ nv).setCell ⟨q, 3, none⟩ ev).setCell ⟨q, 4, none⟩ pv) ∧ (PGood T p' ∧ p' = PF) ∧ KP (fun k => ((k ≠ wo.heap.size ∧ k ≠ p5 ∧ k ≠ w.heap.size ∧ (Value.slice o n c).ownBlock ≠ some k) ∧ (Value.slice o2 j c2).ownBlock ≠ some k) ∧ k ≠ pst) (((((w3.setCell ⟨q, 0, none⟩ (.slice none 0 0)).setCell ⟨q, 1, none⟩ (.int .i64 p.kind)).setCell ⟨q, 2, none⟩ nv).setCell ⟨q, 3, none⟩ ev).setCell ⟨q, 4, none⟩ pv) (fun w' => PtIs w' p' nv' ev' pv') := by
  have hr := reg17 (pst := q) (wx := ((((w3.setCell ⟨q, 0, none⟩ (.slice none 0 0)).setCell ⟨q, 1, none⟩ (.int .i64 p.kind)).setCell ⟨q, 2, none⟩ nv).setCell ⟨q, 3, none⟩ ev).setCell ⟨q, 4, none⟩ pv) h hI hc hb3 hkp ((((((Ag.refl _ w3).setCell (fun h => h rfl) _).setCell (fun h => h rfl) _).setCell (fun h => h rfl) _).setCell (fun h => h rfl) _).setCell (fun h => h rfl) _) hqr (fun k hk hS => not_sz hq (by decide) hS)
  exact ⟨q, p, nv, ev, pv, rfl, set_five _ _ _ _ _ (bel_get hb3 hq), hqr, hr.1, hp, hr.2⟩
/-- where a rule's numbers are cut -/
theorem mk_cut (N j nn : Nat) (hN : 2 ≤ N) (hN2 : N ≤ 17592186044416) (hj : j < nn) (hnn : nn ≤ 2) : ∃ q1 q2 lo hi : Nat, IntKind.i64.wrap ((N : Int) - 1) = (N : Int) - 1 ∧ IntKind.i64.wrap (((N : Int) - 1) * (j : Int)) = ((N : Int) - 1) * (j : Int) ∧ IntKind.i64.wrap ((((N : Int) - 1) * (j : Int)).tdiv (nn : Int)) = (q1 : Int) ∧ IntKind.i64.wrap (1 + (q1 : Int)) = (lo : Int) ∧
    IntKind.i64.wrap ((j : Int) + 1) = (j : Int) + 1 ∧ IntKind.i64.wrap (((N : Int) - 1) * ((j : Int) + 1)) = ((N : Int) - 1) * ((j : Int) + 1) ∧ IntKind.i64.wrap ((((N : Int) - 1) * ((j : Int) + 1)).tdiv (nn : Int)) = (q2 : Int) ∧ IntKind.i64.wrap (1 + (q2 : Int)) = (hi : Int) ∧ lo ≤ hi ∧ hi ≤ N ∧ lo = loF N j nn ∧ hi = loF N (j + 1) nn := by
  obtain ⟨M, rfl⟩ : ∃ M, N = M + 1 := ⟨N - 1, by omega⟩
  have e1 : ((M + 1 : Nat) : Int) - 1 = (M : Int) := by omega
  rw [e1]
  have hq : ∀ x : Nat, x ≤ 2 → 0 < nn → (((M : Int) * (x : Int)).tdiv (nn : Int)) = ((M * x / nn : Nat) : Int) := fun x _ _ => by
    rw [show (M : Int) * (x : Int) = ((M * x : Nat) : Int) by simp]
    rw [Int.tdiv_eq_ediv_of_nonneg (by omega)]
    rfl
  have hb : ∀ x : Nat, x ≤ 2 → M * x ≤ 2 * M := fun x hx => by rw [Nat.mul_comm 2]; exact Nat.mul_le_mul_left _ hx
  have hd : ∀ x : Nat, x ≤ nn → M * x / nn ≤ M := fun x hx => by
    refine Nat.div_le_of_le_mul ?_
    rw [Nat.mul_comm nn]; exact Nat.mul_le_mul_left _ hx
  have hmono : M * j / nn ≤ M * (j + 1) / nn := Nat.div_le_div_right (Nat.mul_le_mul_left _ (by omega))
  have b1 := hb j (by omega)
  have b2 := hb (j + 1) (by omega)
  have b3 := hd j (by omega)
  have b4 := hd (j + 1) (by omega)
  have c1 : (M : Int) * (j : Int) = ((M * j : Nat) : Int) := by simp
  have c2 : (M : Int) * ((j : Int) + 1) = ((M * (j + 1) : Nat) : Int) := by simp
  have q1 := hq j (by omega) (by omega)
  have q2 := hq (j + 1) (by omega) (by omega)
  rw [show (((j + 1 : Nat)) : Int) = (j : Int) + 1 by omega] at q2
  obtain ⟨x1, hx1⟩ : ∃ x1, x1 = M * j / nn := ⟨_, rfl⟩
  obtain ⟨x2, hx2⟩ : ∃ x2, x2 = M * (j + 1) / nn := ⟨_, rfl⟩
  rw [← hx1] at q1 b3 hmono
  rw [← hx2] at q2 b4 hmono
  have ex1 : 1 + x1 = loF (M + 1) j nn := by unfold loF; rw [Nat.add_sub_cancel, hx1]
  have ex2 : 1 + x2 = loF (M + 1) (j + 1) nn := by unfold loF; rw [Nat.add_sub_cancel, hx2]
  clear hq hd hb hx1 hx2
  refine ⟨x1, x2, 1 + x1, 1 + x2, IntWalk.i64_in _ (by omega), ?_, ?_, ?_, IntWalk.i64_in _ (by omega), ?_, ?_, ?_, by omega, by omega, ex1, ex2⟩
  · rw [c1]; exact IntWalk.i64_in _ (by omega)
  · rw [q1]; exact IntWalk.i64_in _ (by omega)
  · rw [IntWalk.i64_in _ (by omega)]; omega
  · rw [c2]; exact IntWalk.i64_in _ (by omega)
  · rw [q2]; exact IntWalk.i64_in _ (by omega)
  · rw [IntWalk.i64_in _ (by omega)]; omega
end Go.Proofs.YtbanmggkfpnalaaGreatDoor
