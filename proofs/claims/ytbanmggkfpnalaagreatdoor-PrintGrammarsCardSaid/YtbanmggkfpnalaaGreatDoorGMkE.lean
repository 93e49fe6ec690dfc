/- Merged: GMkP, GMkF, GMe. -/
import Derived.Test.YtbanmggkfpnalaaGreatDoorMkPQ
set_option linter.unusedVariables false
set_option linter.unusedSimpArgs false
namespace Go.Proofs.YtbanmggkfpnalaaGreatDoor
open Go.RowKit Ru PT

/-- 'append(v, x...)' where v's row has no room: a new row -/
theorem wp_append_full {P : Program} (w : World) {o : Oper} {a : Act} {K : Act → World → Prop} {Q : Exit → Act → World → Prop} (s x : Operand) (t : TypeId)
    (ho : o.op = .call { callee := .builtin .append, args := #[s, x], argTypes := #[t, t] })
    (base : Nat) (e : TypeId) (i : TypeInfo) (z : Value) (size bytes : Nat) (ht : P.underlying t = some (.slice e)) (hi : P.info? e = some i) (hz : i.zero = some z)
    (hsize : i.size = size) (hby : i.bytes = bytes) (hzs : z.cells.size = size) (hsz : 0 < size)
    (b off n : Nat) (xs : List Value) (hs : a.eval s = .slice (some ⟨b, off, none⟩) n n) (hxl : xs.length = n * size) (hxc : ∀ j u, xs[j]? = some u → w.cell? ⟨b, off + j, none⟩ = some u)
    (g : Nat) (news : List Value) (hx : a.eval x = .slice (some ⟨g, 0, none⟩) 1 1) (hnew : ∀ j u, news[j]? = some u → w.cell? ⟨g, j, none⟩ = some u) (hl : news.length = 1 * size)
    (h63 : n + 1 ≤ maxLen) (hbytes : (n + 1) * bytes ≤ 140737488355328) (hbase : base ≤ w.heap.size)
    (h : ∀ c' w', w'.ownsRow base e size (.slice (some ⟨w.heap.size, 0, none⟩) (n + 1) c') (n + 1) (xs ++ news) → Below w.heap.size w w' → K (a.put o.dst (.slice (some ⟨w.heap.size, 0, none⟩) (n + 1) c')) w') : o.wp P a w K Q := by
  subst hsize hby
  have hsmall : n + 1 ≤ 9223372036854775807 := by simp only [maxLen] at h63; omega
  have hadd : ∀ (p q j : Nat), ((⟨p, q, none⟩ : Addr).add j) = ⟨p, q + j, none⟩ := fun p q j => by unfold Addr.add; by_cases e : j = 0 <;> simp [e]
  have hr := run_append_grow (P := P) w t o.type e i z ht hi hz ⟨b, off, none⟩ n n xs hxl (fun j u hj => by rw [hadd]; exact hxc j u hj) ⟨g, 0, none⟩ 1 1 news hl (fun j u hj => by rw [hadd, Nat.zero_add]; exact hnew j u hj) (by omega) (by omega) (growslice_fits (by omega) hbytes)
  have hge := grownCap_ge w (n + 1) n e
  have hcm : grownCap w (n + 1) n e ≤ maxLen := grownCap_le_maxLen w (n + 1) n e h63
  have hlen : (xs ++ news).length = (n + 1) * i.size := by rw [List.length_append, hxl, hl, Nat.add_mul]
  unfold Oper.wp execOp
  simp only [ho, resolve, invoke, builtin, Sem.run_bind, Sem.run_pure, Result.andThen_ok, List.map_toArray, List.map_cons, List.map_nil, hs, hx, hr]
  refine h _ _ ⟨hlen, .inr ⟨w.heap.size, _, _, rfl, hbase, heap_alloc_new w.drew _, hge, hcm, ?_, ?_⟩⟩ (bel_new (Below.refl _ _).drew _)
  · simp only [Array.size_append, List.size_toArray, size_zeroCells, hzs, hxl, hl, ← Nat.add_mul]
    congr 1
    omega
  · simp only [Array.toList_append, List.append_assoc]
    rw [← List.append_assoc, ← hlen]
    exact List.take_left
theorem step_append_full {P : Program} (w : World) {ops : Array Oper} {o : Oper} {a : Act} {K : Act → World → Prop} {Q : Exit → Act → World → Prop} {E : Prop} (hgd : o.guard = none) (s x : Operand) (t : TypeId)
    (ho : o.op = .call { callee := .builtin .append, args := #[s, x], argTypes := #[t, t] })
    (base : Nat) (e : TypeId) (i : TypeInfo) (z : Value) (size bytes : Nat) (ht : P.underlying t = some (.slice e)) (hi : P.info? e = some i) (hz : i.zero = some z)
    (hsize : i.size = size) (hby : i.bytes = bytes) (hzs : z.cells.size = size) (hsz : 0 < size)
    (b off n : Nat) (xs : List Value) (hs : a.eval s = .slice (some ⟨b, off, none⟩) n n) (hxl : xs.length = n * size) (hxc : ∀ j u, xs[j]? = some u → w.cell? ⟨b, off + j, none⟩ = some u)
    (g : Nat) (news : List Value) (hx : a.eval x = .slice (some ⟨g, 0, none⟩) 1 1) (hnew : ∀ j u, news[j]? = some u → w.cell? ⟨g, j, none⟩ = some u) (hl : news.length = 1 * size)
    (h63 : n + 1 ≤ maxLen) (hbytes : (n + 1) * bytes ≤ 140737488355328) (hbase : base ≤ w.heap.size)
    (h : ∀ c' w', w'.ownsRow base e size (.slice (some ⟨w.heap.size, 0, none⟩) (n + 1) c') (n + 1) (xs ++ news) → Below w.heap.size w w' → K (a.put o.dst (.slice (some ⟨w.heap.size, 0, none⟩) (n + 1) c')) w') : if Region.wanted o (yielded ops a.tmps) = true then Oper.wp P o a w K Q else E := by
  have hw : Region.wanted o (yielded ops a.tmps) = true := by simp [Region.wanted, hgd]
  rw [if_pos hw]
  exact wp_append_full w s x t ho base e i z size bytes ht hi hz hsize hby hzs hsz b off n xs hs hxl hxc g news hx hnew hl h63 hbytes hbase h
/-- a cell of an owned row turned -/
theorem owns_turn {w : World} {base size n g c j : Nat} {e : TypeId} {xs : List Value} (u : Value) (h : w.ownsRow base e size (.slice (some ⟨g, 0, none⟩) n c) n xs) : (w.setCell ⟨g, j, none⟩ u).ownsRow base e size (.slice (some ⟨g, 0, none⟩) n c) n (xs.set j u) := by
  refine ⟨by rw [List.length_set]; exact h.1, ?_⟩
  rcases h.2 with ⟨h0, -⟩ | ⟨g', cap, cur, hv, hb, hg, hn, hm, hs, ht⟩
  · cases h0
  · cases hv
    refine .inr ⟨g, c, cur.setIfInBounds j u, rfl, hb, by simp [World.setCell, Array.getElem?_modify, hg], hn, hm, by simpa using hs, ?_⟩
    rw [Array.toList_setIfInBounds, List.take_set, ht]
abbrev four (p : PT × Value × Value × Value) : List Value := [.int .i64 p.1.kind, p.2.1, p.2.2.1, p.2.2.2]
abbrev PatO (X : Nat → Prop) (w : World) (B : Nat) (v : Value) (ps : List (PT × Value × Value × Value)) : Prop := Own X w B 47 4 v four (fun w' p => PtIs w' p.1 p.2.1 p.2.2.1 p.2.2.2) ps
/-- the stack in memory behind j numbers; the result's block is the one at w's end -/
structure SK (T : List TK) (G : Gh) (w : World) (j : Nat) (o : Option Addr) (n c : Nat) (ps : List (PT × Value × Value × Value)) (wx : World) : Prop where
  len : ps.length = n
  own : PatO (fun k => SZ w k ∧ k ≠ w.heap.size) wx (w.heap.size + 1) (.slice o n c) ps
  stk : Stk T G j (ps.map (·.1))
  bel : Below w.heap.size w wx
  rb : wx.heap[w.heap.size]? = some (.cells #[.int .i64 0, .slice none 0 0, .slice none 0 0, .slice none 0 0] 47 (0, 0))
theorem SK.moved {T : List TK} {G : Gh} {w wx wy : World} {j n c : Nat} {o : Option Addr} {ps : List (PT × Value × Value × Value)} (h : SK T G w j o n c ps wx) (hb : Below wx.heap.size wx wy) : SK T G w j o n c ps wy := ⟨h.len, h.own.moved hb, h.stk, bel_then h.bel hb, bel_get hb h.rb⟩
theorem SK.start (T : List TK) (G : Gh) (w : World) : SK T G w 0 none 0 0 [] (w.alloc (.cells #[.int .i64 0, .slice none 0 0, .slice none 0 0, .slice none 0 0] 47)) :=
  ⟨rfl, Own.nil, Stk.nil T G, bel_new (Below.refl _ _) _, heap_alloc_new w _⟩
theorem SK.lt {T : List TK} {G : Gh} {w wx : World} {j n c : Nat} {o : Option Addr} {ps : List (PT × Value × Value × Value)} (h : SK T G w j o n c ps wx) : w.heap.size < wx.heap.size := hp_lt h.rb
theorem SK.push {T : List TK} {G : Gh} {w wx X w9 : World} {j n c c9 : Nat} {o o9 : Option Addr} {ps : List (PT × Value × Value × Value)} {news : List Value} {p : PT} {nv ev lv : Value} (h : SK T G w j o n c ps wx)
    (hX : Below wx.heap.size wx X) (hown9 : w9.ownsRow (w.heap.size + 1) 47 4 (.slice o9 (n + 1) c9) (n + 1) (ps.flatMap four ++ news)) (hnews : news = four (p, nv, ev, lv))
    (hg9 : X.grownBy w9 (Value.slice o n c).ownBlock) (hf9 : ∀ k, (Value.slice o9 (n + 1) c9).ownBlock = some k → (Value.slice o n c).ownBlock = some k ∨ X.heap.size ≤ k)
    (hp : KP (fun k => (SZ w k ∧ k ≠ w.heap.size) ∧ (Value.slice o n c).ownBlock ≠ some k) X (fun w' => PtIs w' p nv ev lv)) (hgp : GP T p) (hd : p.deep ≤ 2) (hs : p.size ≤ 2) (htr : ps.map (·.1) ++ [p] = runP G (j + 1)) :
    ∃ ps', SK T G w (j + 1) o9 (n + 1) c9 ps' w9 := by
  subst hnews
  have hrow := h.own.row
  have hlt := h.lt
  have hXs := hX.size
  have hpush := (h.own.moved hX).push (w' := w9) (v' := .slice o9 (n + 1) c9) (p := (p, nv, ev, lv)) (by rw [h.len]; exact hown9) hg9 hf9 hp
  refine ⟨ps ++ [(p, nv, ev, lv)], by simp [h.len], hpush, by simpa using h.stk.push hgp hd hs htr, ?_, ?_⟩
  · exact (h.bel.trans (hX.mono h.bel.size)).grown hg9 (by omega) (fun k hk => by have := (hrow.lt k hk).1; omega)
  · rw [hg9.block _ (by omega) (fun e => by have := (hrow.lt _ e.symm).1; omega)]; exact bel_get hX h.rb
/-- what an arm gives is what the function gives -/
theorem SK.now {T : List TK} {G : Gh} {w wx : World} {j n c v : Nat} {k : Int} {o : Option Addr} {ps : List (PT × Value × Value × Value)} (h : SK T G w j o n c ps wx) (hj : j < G.l.length) (hk : k = G.l.getD j 0) (hv : (IntKind.u64.wrap k).tmod 11 = (v : Int)) :
    (ps.map (·.1)).length = n ∧ runP G (j + 1) = stepP G.I G.C G.R k (ps.map (·.1)) ∧ ((IntKind.u64.wrap k).tmod 11).toNat = v := by
  refine ⟨by rw [List.length_map]; exact h.len, ?_, by rw [hv]; omega⟩
  rw [runP_next hj, ← hk, ← h.stk.tr]
theorem lastP_snoc (s : List PT) (p : PT) : lastP (s ++ [p]) = p := by simp [lastP]
section
variable {T : List TK} {G : Gh} {w wx : World} {j n c v : Nat} {k : Int} {o : Option Addr} {ps : List (PT × Value × Value × Value)}
theorem w64 (x : Int) : wrap64 x = IntKind.i64.wrap x := by
  unfold wrap64 IntKind.wrap
  simp [IntKind.bits, IntKind.signed]
  split <;> omega
theorem SK.tok (h : SK T G w j o n c ps wx) (hj : (j : Int) < (G.l.length : Int)) (hk : k = G.l.getD j 0) (hv : (IntKind.u64.wrap k).tmod 11 = (v : Int)) (hc : v < 3 ∨ n = 0 ∧ 5 < v) {ns : List ByteArray} (hn : ns = pickF G.I (wrap64 (k.tdiv 11))) :
    ps.map (·.1) ++ [.mk 2 ns [] []] = runP G (j + 1) := by
  obtain ⟨e1, e2, e3⟩ := h.now (by omega) hk hv
  rw [e2]; unfold stepP; rw [e3, e1, if_pos hc, hn]
theorem SK.flat4 (h : SK T G w j o n c ps wx) (hj : (j : Int) < (G.l.length : Int)) (hk : k = G.l.getD j 0) (hv : (IntKind.u64.wrap k).tmod 11 = ((3 : Nat) : Int)) :
    ps.map (·.1) ++ [.mk 4 [] [] []] = runP G (j + 1) := by
  obtain ⟨e1, e2, e3⟩ := h.now (by omega) hk hv
  rw [e2]; unfold stepP; rw [e3, if_neg (by omega), if_pos rfl]
theorem SK.flat1 (h : SK T G w j o n c ps wx) (hj : (j : Int) < (G.l.length : Int)) (hk : k = G.l.getD j 0) (hv : (IntKind.u64.wrap k).tmod 11 = ((4 : Nat) : Int)) :
    ps.map (·.1) ++ [.mk 1 [] [] []] = runP G (j + 1) := by
  obtain ⟨e1, e2, e3⟩ := h.now (by omega) hk hv
  rw [e2]; unfold stepP; rw [e3, if_neg (by omega), if_neg (by decide), if_pos rfl]
theorem SK.inn (h : SK T G w j o n c ps wx) (hj : (j : Int) < (G.l.length : Int)) (hk : k = G.l.getD j 0) (hv : (IntKind.u64.wrap k).tmod 11 = ((5 : Nat) : Int)) {ns es : List ByteArray} {x11 x13 x17 K : Int} (h11 : IntKind.i64.wrap (k.tdiv 11) = x11) (h13 : IntKind.i64.wrap (k.tdiv 13) = x13) (h17 : IntKind.i64.wrap (k.tdiv 17) = x17)
    (hn : ns = pickF G.C x11) (he : es = pickF G.R x13) (hK : K = if bits BinOp.and IntKind.i64 x17 1 = 1 then 4 else 1) :
    ps.map (·.1) ++ [.mk 3 ns es [.mk K [] [] []]] = runP G (j + 1) := by
  obtain ⟨e1, e2, e3⟩ := h.now (by omega) hk hv
  rw [e2]; unfold stepP; rw [e3, if_neg (by omega), if_neg (by decide), if_neg (by decide), if_pos rfl, hn, he, hK, w64, w64, w64, h11, h13, h17]
theorem SK.star {m : Nat} {q : PT × Value × Value × Value} (h : SK T G w j o (m + 1) c (ps ++ [q]) wx) (hj : (j : Int) < (G.l.length : Int)) (hk : k = G.l.getD j 0) (hv : (IntKind.u64.wrap k).tmod 11 = (v : Int)) (hc : v = 6 ∨ m + 1 < 2 ∧ 7 < v) :
    ps.map (·.1) ++ [.mk 7 [] [] [q.1]] = runP G (j + 1) := by
  obtain ⟨e1, e2, e3⟩ := h.now (by omega) hk hv
  rw [e2]; unfold stepP; rw [e3, e1, if_neg (by omega), if_neg (by omega), if_neg (by omega), if_neg (by omega), if_pos hc]
  simp [lastP]
theorem SK.wrapIn {m : Nat} {q : PT × Value × Value × Value} (h : SK T G w j o (m + 1) c (ps ++ [q]) wx) (hj : (j : Int) < (G.l.length : Int)) (hk : k = G.l.getD j 0) (hv : (IntKind.u64.wrap k).tmod 11 = ((7 : Nat) : Int)) {ns es : List ByteArray} {x11 x13 : Int} (h11 : IntKind.i64.wrap (k.tdiv 11) = x11) (h13 : IntKind.i64.wrap (k.tdiv 13) = x13)
    (hn : ns = pickF G.C x11) (he : es = pickF G.R x13) :
    ps.map (·.1) ++ [.mk 3 ns es [q.1]] = runP G (j + 1) := by
  obtain ⟨e1, e2, e3⟩ := h.now (by omega) hk hv
  rw [e2]; unfold stepP; rw [e3, e1, if_neg (by omega), if_neg (by decide), if_neg (by decide), if_neg (by decide), if_neg (by omega), if_pos rfl, hn, he, w64, w64, h11, h13]
  simp [lastP]
theorem SK.pair {m : Nat} {q r : PT × Value × Value × Value} (h : SK T G w j o (m + 2) c (ps ++ [q, r]) wx) (hj : (j : Int) < (G.l.length : Int)) (hk : k = G.l.getD j 0) (hv : (IntKind.u64.wrap k).tmod 11 = (v : Int)) (hc : 8 ≤ v) {K : Int} (hK : K = if v < 10 then 5 else 6) :
    ps.map (·.1) ++ [.mk K [] [] [q.1, r.1]] = runP G (j + 1) := by
  obtain ⟨e1, e2, e3⟩ := h.now (by omega) hk hv
  rw [e2]; unfold stepP; rw [e3, e1, if_neg (by omega), if_neg (by omega), if_neg (by omega), if_neg (by omega), if_neg (by omega), if_neg (by omega), hK]
  have e : (ps ++ [q, r]).map (·.1) = (ps.map (·.1) ++ [q.1]) ++ [r.1] := by simp
  rw [e, List.dropLast_concat, List.dropLast_concat, lastP_snoc, lastP_snoc]
theorem SK.void (h : SK T G w j o 0 c ps wx) (hj : j ≤ 8) (he : G.l.length ≤ j ∨ j = 8) : PT.mk 4 [] [] [] = patF G := by
  rw [patF_at hj he, ← h.stk.tr]
  have : ps = [] := List.eq_nil_of_length_eq_zero h.len
  rw [this]; rfl
end
/-- the old values' parts lie apart from what the maker writes -/
theorem kp_arg {T : List TK} {G : Gh} {w wx X : World} {j n c : Nat} {o : Option Addr} {ps : List (PT × Value × Value × Value)} (h : SK T G w j o n c ps wx) (hX : Below wx.heap.size wx X) {F : World → Prop} (hF : KP (SZ w) w F) :
    KP (fun k => (SZ w k ∧ k ≠ w.heap.size) ∧ (Value.slice o n c).ownBlock ≠ some k) X F := by
  intro w' h'
  have hb := h.bel.trans (hX.mono h.bel.size)
  refine hF w' ⟨h'.os.trans hb.os, h'.tape.trans hb.tape, h'.output.trans hb.output, Nat.le_trans hb.size h'.size, fun k hk hS => ?_⟩
  rw [h'.block k (Nat.lt_of_lt_of_le hk hb.size) ⟨⟨hS, by omega⟩, fun e => by have := (h.own.row.lt k e).1; omega⟩]
  exact hb.block k hk
theorem kp_and {S : Nat → Prop} {w : World} {F G H : World → Prop} (hF : KP S w F) (hG : KP S w G) (h : ∀ w', F w' → G w' → H w') : KP S w H := fun w' h' => h w' (hF w' h') (hG w' h')
theorem pt_tok {w : World} {ns : List ByteArray} {nv : Value} (h : Row w nv ns.length (strs ns)) : PtIs w (.mk 2 ns [] []) nv (.slice none 0 0) (.slice none 0 0) :=
  .mk 2 ns [] [] _ _ _ [] h (Row.nil w) (Row.nil w) rfl (fun i c p h => by simp at h) (fun i c p h => by simp at h)
theorem pt_one {w : World} {k : Int} {ns es : List ByteArray} {nv ev qn qe ql : Value} {p : PT} {b : Nat} (hn : Row w nv ns.length (strs ns)) (he : Row w ev es.length (strs es)) (hp : PtIs w p qn qe ql)
    (hb : w.heap[b]? = some (.cells #[.int .i64 p.kind, qn, qe, ql] 47 (0, 0))) : PtIs w (.mk k ns es [p]) nv ev (.slice (some ⟨b, 0, none⟩) 1 1) := by
  refine .mk k ns es [p] _ _ _ [(p.kind, qn, qe, ql)] hn he (Row.owned (row_block (n := 1) (size := 4) hb rfl (by decide))) rfl ?_ ?_
  · intro i c q hc hq
    match i, hc, hq with
    | 0, hc, hq => cases hc; cases hq; rfl
    | (n + 1), hc, hq => simp at hc
  · intro i c q hc hq
    match i, hc, hq with
    | 0, hc, hq => cases hc; cases hq; exact hp
    | (n + 1), hc, hq => simp at hc
theorem pt_two {w : World} {k : Int} {qn qe ql rn re rl : Value} {p q : PT} {b : Nat} (hp : PtIs w p qn qe ql) (hq : PtIs w q rn re rl)
    (hb : w.heap[b]? = some (.cells #[.int .i64 p.kind, qn, qe, ql, .int .i64 q.kind, rn, re, rl] 47 (0, 0))) : PtIs w (.mk k [] [] [p, q]) (.slice none 0 0) (.slice none 0 0) (.slice (some ⟨b, 0, none⟩) 2 2) := by
  refine .mk k [] [] [p, q] _ _ _ [(p.kind, qn, qe, ql), (q.kind, rn, re, rl)] (Row.nil w) (Row.nil w) (Row.owned (row_block (n := 2) (size := 4) hb rfl (by decide))) rfl ?_ ?_
  · intro i c r hc hr
    match i, hc, hr with
    | 0, hc, hr => cases hc; cases hr; rfl
    | 1, hc, hr => cases hc; cases hr; rfl
    | (n + 2), hc, hr => simp at hc
  · intro i c r hc hr
    match i, hc, hr with
    | 0, hc, hr => cases hc; cases hr; exact hp
    | 1, hc, hr => cases hc; cases hr; exact hq
    | (n + 2), hc, hr => simp at hc
theorem bits_one (k : Int) : bits BinOp.and IntKind.i64 k 1 = 0 ∨ bits BinOp.and IntKind.i64 k 1 = 1 := by
  have h : ((BitVec.ofInt 64 k) &&& (BitVec.ofInt 64 1)).toNat = (BitVec.ofInt 64 k).toNat % 2 := by
    rw [BitVec.toNat_and]; exact Nat.and_one_is_mod _
  have e : bits BinOp.and IntKind.i64 k 1 = IntKind.i64.wrap ((((BitVec.ofInt 64 k) &&& (BitVec.ofInt 64 1)).toNat : Nat) : Int) := rfl
  rw [e, h]
  rcases Nat.mod_two_eq_zero_or_one (BitVec.ofInt 64 k).toNat with h2 | h2
  · rw [h2]; exact .inl rfl
  · rw [h2]; exact .inr rfl
theorem SK.own_cells {T : List TK} {G : Gh} {w wx : World} {j n c : Nat} {o : Option Addr} {ps : List (PT × Value × Value × Value)} (h : SK T G w j o n c ps wx) (hn : 0 < n) :
    ∃ g, o = some ⟨g, 0, none⟩ ∧ w.heap.size < g ∧ g < wx.heap.size ∧ n ≤ c ∧ (∀ i, wx.frozen? ⟨g, i, none⟩ = false) ∧ ∀ (m : Nat) (q : PT × Value × Value × Value), ps[m]? = some q →
      wx.cell? ⟨g, m * 4, none⟩ = some (.int .i64 q.1.kind) ∧ wx.cell? ⟨g, m * 4 + 1, none⟩ = some q.2.1 ∧ wx.cell? ⟨g, m * 4 + 2, none⟩ = some q.2.2.1 ∧ wx.cell? ⟨g, m * 4 + 3, none⟩ = some q.2.2.2 := by
  have hr := h.own.row
  rw [h.len] at hr
  rcases hr.2 with ⟨-, h0⟩ | ⟨g, cap, cur, hv, hb, hg, hnc, hm, hs, ht⟩
  · omega
  · cases hv
    refine ⟨g, rfl, by omega, hp_lt hg, hnc, fun i => by simp [World.frozen?, hg], fun m q hq => ?_⟩
    have hc := fun (i : Nat) (u : Value) (hu : (ps.flatMap four)[i]? = some u) => hr.cells (g := g) rfl i u hu
    have hadd : ∀ (i : Nat), ((⟨g, 0, none⟩ : Addr).add i) = ⟨g, i, none⟩ := fun i => by unfold Addr.add; by_cases e : i = 0 <;> simp [e]
    have hf := fun (i : Nat) (hi : i < 4) => fm_get four 4 (fun _ => rfl) ps m i q hq hi
    have f0 := hc (m * 4) (.int .i64 q.1.kind) (by have := hf 0 (by omega); simpa using this)
    have f1 := hc (m * 4 + 1) q.2.1 (by have := hf 1 (by omega); simpa using this)
    have f2 := hc (m * 4 + 2) q.2.2.1 (by have := hf 2 (by omega); simpa using this)
    have f3 := hc (m * 4 + 3) q.2.2.2 (by have := hf 3 (by omega); simpa using this)
    rw [hadd] at f0 f1 f2 f3
    exact ⟨f0, f1, f2, f3⟩
theorem fours_len : ∀ (l : List (PT × Value × Value × Value)), (l.flatMap four).length = l.length * 4 := by
  intro l
  induction l with
  | nil => rfl
  | cons a l ih => simp [List.flatMap_cons, ih]; omega
theorem set4 (xs : List Value) (k : Nat) (hk : xs.length = k) (a0 a1 a2 a3 b0 b1 b2 b3 : Value) : ((((xs ++ [a0, a1, a2, a3]).set k b0).set (k + 1) b1).set (k + 2) b2).set (k + 3) b3 = xs ++ [b0, b1, b2, b3] := by
  subst hk
  simp [List.set_append]
/-- the last element turned in place -/
theorem SK.over {T : List TK} {G : Gh} {w wx X W' : World} {j m c g : Nat} {ps : List (PT × Value × Value × Value)} {q : PT × Value × Value × Value} {p : PT} {nv ev lv : Value} (h : SK T G w j (some ⟨g, 0, none⟩) (m + 1) c (ps ++ [q]) wx) (hX : Below wx.heap.size wx X)
    (hW : W' = (((X.setCell ⟨g, m * 4, none⟩ (.int .i64 p.kind)).setCell ⟨g, m * 4 + 1, none⟩ nv).setCell ⟨g, m * 4 + 2, none⟩ ev).setCell ⟨g, m * 4 + 3, none⟩ lv)
    (hp : KP (fun k => (SZ w k ∧ k ≠ w.heap.size) ∧ (Value.slice (some ⟨g, 0, none⟩) (m + 1) c).ownBlock ≠ some k) X (fun w' => PtIs w' p nv ev lv)) (hgp : GP T p) (hd : p.deep = q.1.deep + 1) (hs : p.size = q.1.size + 1) (htr : ps.map (·.1) ++ [p] = runP G (j + 1)) :
    SK T G w (j + 1) (some ⟨g, 0, none⟩) (m + 1) c (ps ++ [(p, nv, ev, lv)]) W' := by
  have hm : ps.length = m := by have := h.len; simp at this; omega
  have hown := h.own.moved hX
  have hgb := (h.own.row.lt g rfl).1
  have hr := hown.row
  rw [show (ps ++ [q]).length = m + 1 by simp [hm]] at hr
  have hag : Ag (fun k => (SZ w k ∧ k ≠ w.heap.size) ∧ (Value.slice (some ⟨g, 0, none⟩) (m + 1) c).ownBlock ≠ some k) X W' := by
    rw [hW]
    exact (((((Ag.refl _ X).setCell (fun h => h.2 rfl) _).setCell (fun h => h.2 rfl) _).setCell (fun h => h.2 rfl) _).setCell (fun h => h.2 rfl) _)
  refine ⟨by simp [hm], ⟨?_, fun r hr' => ?_⟩, ?_, ?_, ?_⟩
  · have h4 := owns_turn (j := m * 4 + 3) lv (owns_turn (j := m * 4 + 2) ev (owns_turn (j := m * 4 + 1) nv (owns_turn (j := m * 4) (.int .i64 p.kind) hr)))
    rw [← hW] at h4
    have e : (ps ++ [q]).flatMap four = ps.flatMap four ++ [.int .i64 q.1.kind, q.2.1, q.2.2.1, q.2.2.2] := by simp
    rw [e, set4 _ _ (by rw [fours_len, hm])] at h4
    have e2 : (ps ++ [(p, nv, ev, lv)]).flatMap four = ps.flatMap four ++ [.int .i64 p.kind, nv, ev, lv] := by simp
    rw [e2]
    simpa [hm] using h4
  · rcases List.mem_append.1 hr' with h1 | h1
    · exact (hown.keep r (by simp [h1])).to hag
    · simp at h1; subst h1; exact hp.to hag
  · have := h.stk
    simp only [List.map_append, List.map_cons, List.map_nil] at this ⊢
    exact this.over hgp hd hs htr
  · rw [hW]
    exact (((((h.bel.trans (hX.mono h.bel.size)).setCell (by simp; omega) _).setCell (by simp; omega) _).setCell (by simp; omega) _).setCell (by simp; omega) _)
  · rw [hW, Below.heap_setCell _ _ _ _ (by simp; omega), Below.heap_setCell _ _ _ _ (by simp; omega), Below.heap_setCell _ _ _ _ (by simp; omega), Below.heap_setCell _ _ _ _ (by simp; omega)]
    exact bel_get hX h.rb
/-- the last two made one, in a new row -/
theorem SK.both {T : List TK} {G : Gh} {w wx X w9 : World} {j m c c9 G9 : Nat} {o : Option Addr} {ps : List (PT × Value × Value × Value)} {q r : PT × Value × Value × Value} {p : PT} {nv ev lv : Value} {news : List Value} (h : SK T G w j o (m + 2) c (ps ++ [q, r]) wx) (hX : Below wx.heap.size wx X) (hG : G9 = X.heap.size)
    (hown9 : w9.ownsRow (w.heap.size + 1) 47 4 (.slice (some ⟨G9, 0, none⟩) (m + 1) c9) (m + 1) (ps.flatMap four ++ news)) (hnews : news = four (p, nv, ev, lv)) (hb9 : Below X.heap.size X w9)
    (hp : KP (fun k => (SZ w k ∧ k ≠ w.heap.size) ∧ (Value.slice o (m + 2) c).ownBlock ≠ some k) X (fun w' => PtIs w' p nv ev lv)) (hgp : GP T p) (hd : p.deep = max q.1.deep r.1.deep + 1) (hs : p.size = q.1.size + r.1.size + 1) (htr : ps.map (·.1) ++ [p] = runP G (j + 1)) :
    SK T G w (j + 1) (some ⟨G9, 0, none⟩) (m + 1) c9 (ps ++ [(p, nv, ev, lv)]) w9 := by
  subst hnews hG
  have hm : ps.length = m := by have := h.len; simp at this; omega
  have hown := h.own.moved hX
  have hXs := hX.size
  have hlt := h.lt
  have key : ∀ {F : World → Prop}, KP (fun k => (SZ w k ∧ k ≠ w.heap.size) ∧ (Value.slice o (m + 2) c).ownBlock ≠ some k) X F → KP (fun k => (SZ w k ∧ k ≠ w.heap.size) ∧ (Value.slice (some ⟨X.heap.size, 0, none⟩) (m + 1) c9).ownBlock ≠ some k) w9 F := by
    intro F hF
    refine KP.sub (S := fun k => ((SZ w k ∧ k ≠ w.heap.size) ∧ (Value.slice o (m + 2) c).ownBlock ≠ some k) ∧ k ≠ X.heap.size) ?_ (fun k hk hS => ⟨hS.1.1, fun e => hS.2 (by simpa [Value.ownBlock] using e.symm)⟩)
    exact (hF.sub (T := fun k => ((SZ w k ∧ k ≠ w.heap.size) ∧ (Value.slice o (m + 2) c).ownBlock ≠ some k) ∧ k ≠ X.heap.size) (fun k hk hS => ⟨hS, by omega⟩)).to (.of hb9)
  refine ⟨by simp [hm], ⟨?_, fun t ht => ?_⟩, ?_, bel_then (h.bel.trans (hX.mono h.bel.size)) hb9, bel_get hb9 (bel_get hX h.rb)⟩
  · have e2 : (ps ++ [(p, nv, ev, lv)]).flatMap four = ps.flatMap four ++ four (p, nv, ev, lv) := by simp
    rw [e2]
    simpa [hm] using hown9
  · rcases List.mem_append.1 ht with h1 | h1
    · exact key (hown.keep t (by simp [h1]))
    · simp at h1; subst h1; exact key hp
  · have := h.stk
    simp only [List.map_append, List.map_cons, List.map_nil] at this ⊢
    exact this.both hgp hd hs htr
theorem own_at {w : World} {B s n c a b : Nat} {e : TypeId} {xs : List Value} (h : w.ownsRow B e s (.slice (some ⟨a, 0, none⟩) n c) n xs) (hab : a = b) : w.ownsRow B e s (.slice (some ⟨b, 0, none⟩) n c) n xs := hab ▸ h
theorem last_of {α : Type} {l : List α} (h : 0 < l.length) : ∃ l' q, l = l' ++ [q] := by
  rcases List.eq_nil_or_concat l with rfl | ⟨l', q, rfl⟩
  · simp at h
  · exact ⟨l', q, by simp⟩
theorem set4_alloc {w : World} {o : Obj} {g i j k l : Nat} {a b c d : Value} (hg : g < w.heap.size) : ((((w.alloc o).setCell ⟨g, i, none⟩ a).setCell ⟨g, j, none⟩ b).setCell ⟨g, k, none⟩ c).setCell ⟨g, l, none⟩ d =
    ((((w.setCell ⟨g, i, none⟩ a).setCell ⟨g, j, none⟩ b).setCell ⟨g, k, none⟩ c).setCell ⟨g, l, none⟩ d).alloc o := by
  rw [World.setCell_alloc_past _ _ _ _ hg, World.setCell_alloc_past _ _ _ _ (by simpa [World.setCell] using hg), World.setCell_alloc_past _ _ _ _ (by simpa [World.setCell] using hg), World.setCell_alloc_past _ _ _ _ (by simpa [World.setCell] using hg)]
theorem cells_new {w : World} {g : Nat} {xs : List Value} {e : TypeId} (hg : g = w.heap.size) : ∀ (j : Nat) (u : Value), xs[j]? = some u → (w.alloc (.cells xs.toArray e)).cell? ⟨g, j, none⟩ = some u := by
  subst hg
  intro j u hj
  have h := heap_alloc_new w (.cells xs.toArray e)
  unfold World.cell?
  rw [h]
  simpa using hj
/-- the goal of an append, and of nothing else -/
theorem is_append {P : Program} {y : Nat → Option Bool} {dst : Option Tmp} {x : Array Operand} {ts : Array TypeId} {type : TypeId} {pos : String} {af : Array Edge} {gd : Option (Nat × Bool)} {a : Act} {w : World} {K : Act → World → Prop} {Q : Exit → Act → World → Prop} {E : Prop}
    (h : if Region.wanted { dst := dst, op := .call { callee := .builtin .append, args := x, argTypes := ts }, type := type, pos := pos, after := af, guard := gd } y = true then Oper.wp P { dst := dst, op := .call { callee := .builtin .append, args := x, argTypes := ts }, type := type, pos := pos, after := af, guard := gd } a w K Q else E) :
    if Region.wanted { dst := dst, op := .call { callee := .builtin .append, args := x, argTypes := ts }, type := type, pos := pos, after := af, guard := gd } y = true then Oper.wp P { dst := dst, op := .call { callee := .builtin .append, args := x, argTypes := ts }, type := type, pos := pos, after := af, guard := gd } a w K Q else E := h
theorem infoPat : ∃ i, Tryz.prog.info? 47 = some i ∧ i.zero = some (.agg #[.int .i64 0, .slice none 0 0, .slice none 0 0, .slice none 0 0]) ∧ i.size = 4 ∧ i.bytes = 80 := info_parts (by kernel_rfl)
end Go.Proofs.YtbanmggkfpnalaaGreatDoor

namespace Go.Proofs.YtbanmggkfpnalaaGreatDoor
open Go.RowKit Ru PT

theorem set_four {w : World} {p : Nat} {x0 x1 x2 x3 : Value} {t : TypeId} (a b c d : Value) (h : w.heap[p]? = some (.cells #[x0, x1, x2, x3] t (0, 0))) :
    ((((w.setCell ⟨p, 0, none⟩ a).setCell ⟨p, 1, none⟩ b).setCell ⟨p, 2, none⟩ c).setCell ⟨p, 3, none⟩ d).heap[p]? = some (.cells #[a, b, c, d] t (0, 0)) := by
  simp [World.setCell, Array.getElem?_modify, h]
/-- the fold in memory: the pattern so far in block pb -/
structure FK (T : List TK) (G : Gh) (w : World) (j n g pb : Nat) (ps : List (PT × Value × Value × Value)) (i : Nat) (p : PT) (nv ev lv : Value) (wx : World) : Prop where
  hp : wx.heap[pb]? = some (.cells #[.int .i64 p.kind, nv, ev, lv] 47 (0, 0))
  fld : Fld T j (ps.map (·.1)) i p
  stk : Stk T G j (ps.map (·.1))
  kp : KP (fun k => (SZ w k ∧ k ≠ w.heap.size) ∧ k ≠ pb) wx (fun w' => PtIs w' p nv ev lv)
  el : ∀ q ∈ ps, KP (fun k => (SZ w k ∧ k ≠ w.heap.size) ∧ k ≠ pb) wx (fun w' => PtIs w' q.1 q.2.1 q.2.2.1 q.2.2.2)
  cells : ∀ (m : Nat) (q : PT × Value × Value × Value), ps[m]? = some q →
      wx.cell? ⟨g, m * 4, none⟩ = some (.int .i64 q.1.kind) ∧ wx.cell? ⟨g, m * 4 + 1, none⟩ = some q.2.1 ∧ wx.cell? ⟨g, m * 4 + 2, none⟩ = some q.2.2.1 ∧ wx.cell? ⟨g, m * 4 + 3, none⟩ = some q.2.2.2
  len : ps.length = n
  gp : g < pb
  gr : w.heap.size < g
  bel : Below w.heap.size w wx
  rb : wx.heap[w.heap.size]? = some (.cells #[.int .i64 0, .slice none 0 0, .slice none 0 0, .slice none 0 0] 47 (0, 0))
theorem FK.moved {T : List TK} {G : Gh} {w wx wy : World} {j n g pb i : Nat} {ps : List (PT × Value × Value × Value)} {p : PT} {nv ev lv : Value} (h : FK T G w j n g pb ps i p nv ev lv wx) (hb : Below wx.heap.size wx wy) : FK T G w j n g pb ps i p nv ev lv wy := by
  have hpl := hp_lt h.hp
  have hgp := h.gp
  refine ⟨bel_get hb h.hp, h.fld, h.stk, h.kp.to (.of hb), fun q hq => (h.el q hq).to (.of hb), fun m q hq => ?_, h.len, h.gp, h.gr, bel_then h.bel hb, bel_get hb h.rb⟩
  obtain ⟨a, b, c, d⟩ := h.cells m q hq
  have hgl : g < wx.heap.size := by omega
  exact ⟨(hb.cell hgl).trans a, (hb.cell hgl).trans b, (hb.cell hgl).trans c, (hb.cell hgl).trans d⟩
theorem FK.start {T : List TK} {G : Gh} {w wx : World} {j n c g : Nat} {ps : List (PT × Value × Value × Value)} {q : PT × Value × Value × Value} (h : SK T G w j (some ⟨g, 0, none⟩) n c ps wx) (hq : ps[0]? = some q) (hgr : w.heap.size < g) (hgl : g < wx.heap.size)
    (hcl : ∀ (m : Nat) (q : PT × Value × Value × Value), ps[m]? = some q → wx.cell? ⟨g, m * 4, none⟩ = some (.int .i64 q.1.kind) ∧ wx.cell? ⟨g, m * 4 + 1, none⟩ = some q.2.1 ∧ wx.cell? ⟨g, m * 4 + 2, none⟩ = some q.2.2.1 ∧ wx.cell? ⟨g, m * 4 + 3, none⟩ = some q.2.2.2) :
    FK T G w j n g wx.heap.size ps 1 q.1 q.2.1 q.2.2.1 q.2.2.2 (wx.alloc (.cells #[.int .i64 q.1.kind, q.2.1, q.2.2.1, q.2.2.2] 47)) := by
  have hb : Below wx.heap.size wx (wx.alloc (.cells #[.int .i64 q.1.kind, q.2.1, q.2.2.1, q.2.2.2] 47)) := bel_new (Below.refl _ _) _
  have hel : ∀ r ∈ ps, KP (fun k => (SZ w k ∧ k ≠ w.heap.size) ∧ k ≠ wx.heap.size) (wx.alloc (.cells #[.int .i64 q.1.kind, q.2.1, q.2.2.1, q.2.2.2] 47)) (fun w' => PtIs w' r.1 r.2.1 r.2.2.1 r.2.2.2) := fun r hr =>
    ((h.own.keep r hr).sub (T := fun k => (SZ w k ∧ k ≠ w.heap.size) ∧ k ≠ wx.heap.size) (fun k hk hS => ⟨hS.1, by omega⟩)).to (.of hb)
  refine ⟨heap_alloc_new wx _, Fld.start h.stk (by simp [hq]), h.stk, hel q (List.mem_of_getElem? hq), hel, ?_, h.len, hgl, hgr, bel_then h.bel hb, bel_get hb h.rb⟩
  intro m r hr
  obtain ⟨a, b, c, d⟩ := hcl m r hr
  exact ⟨(hb.cell hgl).trans a, (hb.cell hgl).trans b, (hb.cell hgl).trans c, (hb.cell hgl).trans d⟩
theorem FK.next {T : List TK} {G : Gh} {w wx W' : World} {j n g pb i : Nat} {ps : List (PT × Value × Value × Value)} {p : PT} {nv ev lv : Value} {q : PT × Value × Value × Value} (h : FK T G w j n g pb ps i p nv ev lv wx) (hi : 1 ≤ i) (hq : ps[i]? = some q)
    (hW : W' = ((((wx.alloc (.cells #[.int .i64 p.kind, nv, ev, lv, .int .i64 q.1.kind, q.2.1, q.2.2.1, q.2.2.2] 47)).setCell ⟨pb, 0, none⟩ (.int .i64 5)).setCell ⟨pb, 1, none⟩ (.slice none 0 0)).setCell ⟨pb, 2, none⟩ (.slice none 0 0)).setCell ⟨pb, 3, none⟩ (.slice (some ⟨wx.heap.size, 0, none⟩) 2 2)) :
    FK T G w j n g pb ps (i + 1) (.mk 5 [] [] [p, q.1]) (.slice none 0 0) (.slice none 0 0) (.slice (some ⟨wx.heap.size, 0, none⟩) 2 2) W' := by
  have hpl := hp_lt h.hp
  have hrl := hp_lt h.rb
  have hgp := h.gp
  have hgr := h.gr
  have hb : Below wx.heap.size wx (wx.alloc (.cells #[.int .i64 p.kind, nv, ev, lv, .int .i64 q.1.kind, q.2.1, q.2.2.1, q.2.2.2] 47)) := bel_new (Below.refl _ _) _
  have hag : Ag (fun k => (SZ w k ∧ k ≠ w.heap.size) ∧ k ≠ pb) (wx.alloc (.cells #[.int .i64 p.kind, nv, ev, lv, .int .i64 q.1.kind, q.2.1, q.2.2.1, q.2.2.2] 47)) W' := by
    rw [hW]
    exact (((((Ag.refl _ _).setCell (fun h => h.2 rfl) _).setCell (fun h => h.2 rfl) _).setCell (fun h => h.2 rfl) _).setCell (fun h => h.2 rfl) _)
  have hoth : ∀ k, k ≠ pb → W'.heap[k]? = (wx.alloc (.cells #[.int .i64 p.kind, nv, ev, lv, .int .i64 q.1.kind, q.2.1, q.2.2.1, q.2.2.2] 47)).heap[k]? := fun k hk => by
    rw [hW, Below.heap_setCell _ _ _ _ (by simpa using hk), Below.heap_setCell _ _ _ _ (by simpa using hk), Below.heap_setCell _ _ _ _ (by simpa using hk), Below.heap_setCell _ _ _ _ (by simpa using hk)]
  have hp1 := bel_get hb h.hp
  refine ⟨?_, h.fld.next h.stk hi (by simp [hq]), h.stk, ?_, fun r hr => ((h.el r hr).to (.of hb)).to hag, ?_, h.len, hgp, hgr, ?_, ?_⟩
  · rw [hW]
    exact set_four (.int .i64 5) (.slice none 0 0) (.slice none 0 0) (.slice (some ⟨wx.heap.size, 0, none⟩) 2 2) hp1
  · refine KP.to ?_ hag
    exact kp_and (kp_and (h.kp.to (.of hb)) ((h.el q (List.mem_of_getElem? hq)).to (.of hb)) (fun w' h1 h2 => And.intro h1 h2)) (KP.block (heap_alloc_new wx _) ⟨⟨.inl (by omega), by omega⟩, by omega⟩) (fun w' h1 h2 => pt_two h1.1 h1.2 h2)
  · intro m r hr
    obtain ⟨a, b, c, d⟩ := h.cells m r hr
    have e : ∀ x, W'.cell? ⟨g, x, none⟩ = wx.cell? ⟨g, x, none⟩ := fun x => by
      refine Eq.trans ?_ (hb.cell (p := ⟨g, x, none⟩) (show g < wx.heap.size by omega))
      unfold World.cell?
      rw [hoth g (by omega)]
    rw [e, e, e, e]
    exact ⟨a, b, c, d⟩
  · rw [hW]
    have hp2 : w.heap.size ≤ pb := by omega
    exact (((((bel_then h.bel hb)).setCell hp2 _).setCell hp2 _).setCell hp2 _).setCell hp2 _
  · rw [hoth _ (by omega)]; exact bel_get hb h.rb
end Go.Proofs.YtbanmggkfpnalaaGreatDoor

namespace Go.Proofs.YtbanmggkfpnalaaGreatDoor
open Go.RowKit Ru PT

/-- what a maker rests on -/
structure ME (T : List TK) (w : World) (iv cv rv : Value) (I C R : List ByteArray) : Prop where
  hI : KP (SZ w) w (fun w' => Row w' iv I.length (strs I))
  hC : KP (SZ w) w (fun w' => Row w' cv C.length (strs C))
  hR : KP (SZ w) w (fun w' => Row w' rv R.length (strs R))
  lI : 1 ≤ I.length ∧ I.length ≤ 2
  lC : 1 ≤ C.length ∧ C.length ≤ 2
  lR : 1 ≤ R.length ∧ R.length ≤ 2
  nI : ∀ ns, Sub ns I → Nm T 0 ns
  nC : ∀ ns, Sub ns C → Nm T 1 ns
  nR : ∀ ns, Sub ns R → Nm T 2 ns
/-- what pattern gives -/
def PatOK : Prop := ∀ (T : List TK) (l : List Int) (lv iv cv rv : Value) (I C R : List ByteArray) (w : World), Row w lv l.length (l.map (Value.int .i64)) → ME T w iv cv rv I C R →
    Calls Tryz.prog 44 #[lv, iv, cv, rv] w fun e w' => ∃ (p : PT) (nv ev pv : Value), e = .returned (.agg #[.int .i64 p.kind, nv, ev, pv]) ∧ KP (SZ w) w' (fun w2 => PtIs w2 p nv ev pv) ∧ PGood T p ∧ p = patF ⟨l, I, C, R⟩ ∧ Below w.heap.size w w'
end Go.Proofs.YtbanmggkfpnalaaGreatDoor
