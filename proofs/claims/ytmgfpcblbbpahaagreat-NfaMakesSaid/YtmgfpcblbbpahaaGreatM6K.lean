/- gobolaw6.Make: its stack and its fold in memory. -/
import Derived.Test.YtmgfpcblbbpahaaGreatAppF
import Derived.Test.YtmgfpcblbbpahaaGreatGram
set_option linter.unusedVariables false
set_option linter.unusedSimpArgs false
namespace Go.Proofs.YtmgfpcblbbpahaaGreat
open Go.RowKit Ru

namespace M6
def lastR (s : List RE) : RE := s.getLast?.getD (.mk 0 [] [])
def oneR (r : Int) : RE := .mk 2 [(r, r)] []
def leafR (a b : Int) : RE := .mk 2 [(97 + a, 97 + a + b)] []
def stepR (k : Int) (s : List RE) : List RE :=
  let v := ((IntKind.u64.wrap k).tmod 9).toNat
  if v < 4 ∨ s.length = 0 then s ++ [leafR (bits BinOp.and IntKind.i64 k 1) (bits BinOp.and IntKind.i64 (v : Int) 1)]
  else if v = 4 then s.dropLast ++ [.mk 5 [] [lastR s]]
  else if 1 < s.length ∧ v < 7 then s.dropLast.dropLast ++ [.mk 3 [] [lastR s.dropLast, lastR s]]
  else if 1 < s.length then s.dropLast.dropLast ++ [.mk 4 [] [lastR s.dropLast, lastR s]]
  else if v = 8 then s ++ [.mk 1 [] []]
  else s
def runR (l : List Int) : Nat → List RE
  | 0 => []
  | j + 1 => if j < l.length then stepR (l.getD j 0) (runR l j) else runR l j
theorem runR_next {l : List Int} {j : Nat} (h : j < l.length) : runR l (j + 1) = stepR (l.getD j 0) (runR l j) := if_pos h
theorem runR_stop {l : List Int} {j : Nat} (h : l.length ≤ j) : ∀ d, runR l (j + d) = runR l j
  | 0 => rfl
  | d + 1 => by rw [← Nat.add_assoc]; exact (if_neg (by omega)).trans (runR_stop h d)
def foldR : List RE → RE
  | [] => oneR 97
  | a :: t => t.foldl (fun e p => .mk 3 [] [e, p]) a
theorem foldR_snoc (s : List RE) (q : RE) (h : 0 < s.length) : foldR (s ++ [q]) = .mk 3 [] [foldR s, q] := by
  cases s with
  | nil => simp at h
  | cons a t => simp [foldR, List.foldl_append]
def makeR (l : List Int) : RE := if (foldR (runR l 14)).may = true then foldR (runR l 14) else oneR 98
theorem makeR_at {l : List Int} {j : Nat} (hj : j ≤ 14) (h : l.length ≤ j ∨ j = 14) : runR l 14 = runR l j := by
  rcases h with h | h
  · have := runR_stop h (14 - j); rwa [show j + (14 - j) = 14 by omega] at this
  · rw [h]
inductive G6 : RE → Prop
  | empty : G6 (.mk 1 [] [])
  | leaf {a b : Int} (ha : 97 ≤ a) (hab : a ≤ b) (hb : b ≤ 99) : G6 (.mk 2 [(a, b)] [])
  | star {p : RE} (h : G6 p) : G6 (.mk 5 [] [p])
  | two {k : Int} {p q : RE} (hk : k = 3 ∨ k = 4) (h : G6 p) (h2 : G6 q) : G6 (.mk k [] [p, q])
theorem g6_one {r : Int} (h : 97 ≤ r ∧ r ≤ 99) : G6 (oneR r) := .leaf h.1 (Int.le_refl _) h.2
theorem G6.fit {e : RE} (h : G6 e) : e.Fit := by
  induction h with
  | empty => exact .mk _ _ _ (fun p hp => by simp at hp) (by simp) (by simp) (fun i e he => by simp at he)
  | leaf ha hab hb => exact .mk _ _ _ (fun p hp => by simp at hp; subst hp; simp; omega) (by simp) (by simp) (fun i e he => by simp at he)
  | star h ih => exact .mk _ _ _ (fun p hp => by simp at hp) (by simp) (by simp) (fun i e he => by
      match i, he with
      | 0, he => cases he; exact ih
      | i + 1, he => simp at he)
  | two hk h h2 ih ih2 => exact .mk _ _ _ (fun p hp => by simp at hp) (by simp) (by simp) (fun i e he => by
      match i, he with
      | 0, he => cases he; exact ih
      | 1, he => cases he; exact ih2
      | i + 2, he => simp at he)
theorem wrap_bit (k : Int) : 0 ≤ bits BinOp.and IntKind.i64 k 1 ∧ bits BinOp.and IntKind.i64 k 1 ≤ 1 := by
  rcases afbits_one k with h | h <;> rw [h] <;> decide
theorem lastR_snoc (s : List RE) (p : RE) : lastR (s ++ [p]) = p := by simp [lastR]
structure Good (j : Nat) (s : List RE) : Prop where
  all : ∀ p ∈ s, G6 p
  len : s.length ≤ j
  size : RE.sizes s ≤ j
theorem sizes_append : ∀ (a b : List RE), RE.sizes (a ++ b) = RE.sizes a + RE.sizes b := by
  intro a b
  induction a with
  | nil => simp [RE.sizes_nil]
  | cons x a ih => rw [List.cons_append, RE.sizes_cons, RE.sizes_cons, ih]; omega
theorem cut_last {s : List RE} (h : 0 < s.length) : s = s.dropLast ++ [lastR s] := by
  rcases List.eq_nil_or_concat s with rfl | ⟨l, q, rfl⟩
  · simp at h
  · simp [lastR]
theorem Good.step {j : Nat} {s : List RE} (k : Int) (h : Good j s) : Good (j + 1) (stepR k s) := by
  have hb := wrap_bit k
  obtain ⟨v, hv⟩ : ∃ v, v = ((IntKind.u64.wrap k).tmod 9).toNat := ⟨_, rfl⟩
  have hb2 := wrap_bit (v : Int)
  unfold stepR
  rw [← hv]
  have hl := h.len
  have hz := h.size
  simp only
  split
  · refine ⟨fun p hp => ?_, by simp; omega, by rw [sizes_append, RE.sizes_cons, RE.sizes_nil, leafR, RE.size_mk, RE.sizes_nil]; omega⟩
    rcases List.mem_append.1 hp with h1 | h1
    · exact h.all p h1
    · simp at h1; subst h1; exact .leaf (by omega) (by omega) (by omega)
  · rename_i h1
    have e1 := cut_last (s := s) (by omega)
    have z1 : RE.sizes s = RE.sizes s.dropLast + (lastR s).size := by
      rw [congrArg RE.sizes e1, sizes_append, RE.sizes_cons, RE.sizes_nil]; omega
    have l1 : s.length = s.dropLast.length + 1 := by simp; omega
    have g1 : G6 (lastR s) := h.all _ (by rw [e1]; simp [lastR])
    have gd : ∀ p ∈ s.dropLast, G6 p := fun p hp => h.all p (List.dropLast_subset s hp)
    split
    · refine ⟨fun p hp => ?_, by simp; omega, by rw [sizes_append, RE.sizes_cons, RE.sizes_nil, RE.size_mk, RE.sizes_cons, RE.sizes_nil]; omega⟩
      rcases List.mem_append.1 hp with h2 | h2
      · exact gd p h2
      · simp at h2; subst h2; exact .star g1
    · have two : 1 < s.length → ∀ kk : Int, kk = 3 ∨ kk = 4 → Good (j + 1) (s.dropLast.dropLast ++ [.mk kk [] [lastR s.dropLast, lastR s]]) := by
        intro h2 kk hkk
        have e2 := cut_last (s := s.dropLast) (by simp; omega)
        have z2 : RE.sizes s.dropLast = RE.sizes s.dropLast.dropLast + (lastR s.dropLast).size := by
          rw [congrArg RE.sizes e2, sizes_append, RE.sizes_cons, RE.sizes_nil]; omega
        have g2 : G6 (lastR s.dropLast) := gd _ (by rw [e2]; simp [lastR])
        refine ⟨fun p hp => ?_, by simp; omega, by rw [sizes_append, RE.sizes_cons, RE.sizes_nil, RE.size_mk, RE.sizes_cons, RE.sizes_cons, RE.sizes_nil]; omega⟩
        rcases List.mem_append.1 hp with h3 | h3
        · exact gd p (List.dropLast_subset s.dropLast h3)
        · simp at h3; subst h3; exact .two hkk g2 g1
      split
      · rename_i h2; exact two h2.1 3 (.inl rfl)
      · split
        · rename_i h2; exact two h2 4 (.inr rfl)
        · split
          · refine ⟨fun p hp => ?_, by simp; omega, by rw [sizes_append, RE.sizes_cons, RE.sizes_nil, RE.size_mk, RE.sizes_nil]; omega⟩
            rcases List.mem_append.1 hp with h2 | h2
            · exact h.all p h2
            · simp at h2; subst h2; exact .empty
          · exact ⟨h.all, by omega, by omega⟩
theorem good_run (l : List Int) : ∀ j, Good j (runR l j)
  | 0 => ⟨fun p h => by simp [runR] at h, by simp [runR], by simp [runR, RE.sizes_nil]⟩
  | j + 1 => by
    unfold runR
    split
    · exact (good_run l j).step _
    · have := good_run l j; exact ⟨this.all, by have := this.len; omega, by have := this.size; omega⟩
theorem fold_good : ∀ (s : List RE) (a : RE), G6 a → (∀ p ∈ s, G6 p) → G6 (s.foldl (fun e p => .mk 3 [] [e, p]) a) ∧ (s.foldl (fun e p => RE.mk 3 [] [e, p]) a).size = a.size + RE.sizes s + s.length := by
  intro s
  induction s with
  | nil => intro a ha _; exact ⟨ha, by simp [RE.sizes_nil]⟩
  | cons x s ih =>
    intro a ha h
    obtain ⟨h1, h2⟩ := ih (.mk 3 [] [a, x]) (.two (.inl rfl) ha (h x (by simp))) (fun p hp => h p (by simp [hp]))
    refine ⟨h1, ?_⟩
    rw [List.foldl_cons, h2, RE.size_mk, RE.sizes_cons, RE.sizes_cons, RE.sizes_nil, RE.sizes_cons, List.length_cons]
    omega
theorem foldR_good {j : Nat} {s : List RE} (h : Good j s) : G6 (foldR s) ∧ (foldR s).size ≤ 2 * j + 1 := by
  cases s with
  | nil => exact ⟨g6_one (by decide), by rw [foldR, oneR, RE.size_mk, RE.sizes_nil]; omega⟩
  | cons a t =>
    obtain ⟨h1, h2⟩ := fold_good t a (h.all a (by simp)) (fun p hp => h.all p (by simp [hp]))
    refine ⟨h1, ?_⟩
    have := h.len
    have := h.size
    rw [RE.sizes_cons] at this
    simp at *
    rw [foldR, h2]
    omega
theorem makeR_ok (l : List Int) : G6 (makeR l) ∧ (makeR l).may = true ∧ (makeR l).size ≤ 29 := by
  obtain ⟨h1, h2⟩ := foldR_good (good_run l 14)
  unfold makeR
  split
  · rename_i h; exact ⟨h1, h, by omega⟩
  · exact ⟨g6_one (by decide), by decide +kernel, by rw [oneR, RE.size_mk, RE.sizes_nil]; omega⟩
end M6
end Go.Proofs.YtmgfpcblbbpahaaGreat

namespace Go.Proofs.YtmgfpcblbbpahaaGreat
open Go.RowKit Ru

abbrev Rt := RE × Value × Value
abbrev thr (p : Rt) : List Value := [.int .i64 p.1.kind, p.2.1, p.2.2]
theorem thr_len : ∀ (l : List Rt), (l.flatMap thr).length = l.length * 3 := by
  intro l
  induction l with
  | nil => rfl
  | cons a l ih => simp [List.flatMap_cons, ih]; omega
theorem infoReM : ∃ i, Tryz.prog.info? 41 = some i ∧ i.zero = some (.agg #[.int .i64 0, .slice none 0 0, .slice none 0 0]) ∧ i.size = 3 ∧ i.bytes = 56 := info_parts (by kernel_rfl)
abbrev ReO (X : Nat → Prop) (w : World) (B : Nat) (v : Value) (ps : List Rt) : Prop := Own X w B 41 3 v thr (fun w' p => ReIs w' p.1 p.2.1 p.2.2) ps
structure K6 (l : List Int) (w : World) (j : Nat) (o : Option Addr) (n c : Nat) (ps : List Rt) (wx : World) : Prop where
  len : ps.length = n
  own : ReO (fun k => w.heap.size < k) wx (w.heap.size + 1) (.slice o n c) ps
  run : ps.map (·.1) = M6.runR l j
  bel : Below w.heap.size w wx
  rb : wx.heap[w.heap.size]? = some (.cells #[.int .i64 0, .slice none 0 0, .slice none 0 0] 41 (0, 0))
section
variable {l : List Int} {w wx wy X w9 : World} {j n c c9 : Nat} {o o9 : Option Addr} {ps : List Rt}
theorem K6.start (l : List Int) (w : World) : K6 l w 0 none 0 0 [] (w.alloc (.cells #[.int .i64 0, .slice none 0 0, .slice none 0 0] 41)) :=
  ⟨rfl, Own.nil, rfl, bel_new (Below.refl _ _) _, heap_alloc_new w _⟩
theorem K6.lt (h : K6 l w j o n c ps wx) : w.heap.size < wx.heap.size := hp_lt h.rb
theorem K6.len14 (h : K6 l w j o n c ps wx) : n ≤ j := by
  have := (M6.good_run l j).len
  rw [← h.run] at this
  simpa [h.len] using this
theorem K6.push {news : List Value} {p : RE} {sv lv : Value} (h : K6 l w j o n c ps wx)
    (hX : Below wx.heap.size wx X) (hown9 : w9.ownsRow (w.heap.size + 1) 41 3 (.slice o9 (n + 1) c9) (n + 1) (ps.flatMap thr ++ news)) (hnews : news = thr (p, sv, lv))
    (hg9 : X.grownBy w9 (Value.slice o n c).ownBlock) (hf9 : ∀ k, (Value.slice o9 (n + 1) c9).ownBlock = some k → (Value.slice o n c).ownBlock = some k ∨ X.heap.size ≤ k)
    (hp : KP (fun k => w.heap.size < k ∧ (Value.slice o n c).ownBlock ≠ some k) X (fun w' => ReIs w' p sv lv)) (htr : ps.map (·.1) ++ [p] = M6.runR l (j + 1)) :
    ∃ ps', K6 l w (j + 1) o9 (n + 1) c9 ps' w9 := by
  subst hnews
  have hrow := h.own.row
  have hlt := h.lt
  have hXs := hX.size
  have hpush := (h.own.moved hX).push (w' := w9) (v' := .slice o9 (n + 1) c9) (p := (p, sv, lv)) (by rw [h.len]; exact hown9) hg9 hf9 hp
  refine ⟨ps ++ [(p, sv, lv)], by simp [h.len], hpush, by simpa using htr, ?_, ?_⟩
  · exact (h.bel.trans (hX.mono h.bel.size)).grown hg9 (by omega) (fun k hk => by have := (hrow.lt k hk).1; omega)
  · rw [hg9.block _ (by omega) (fun e => by have := (hrow.lt _ e.symm).1; omega)]; exact bel_get hX h.rb
theorem K6.own_cells (h : K6 l w j o n c ps wx) (hn : 0 < n) :
    ∃ g, o = some ⟨g, 0, none⟩ ∧ w.heap.size < g ∧ g < wx.heap.size ∧ n ≤ c ∧ (∀ i, wx.frozen? ⟨g, i, none⟩ = false) ∧ ∀ (m : Nat) (q : Rt), ps[m]? = some q →
      wx.cell? ⟨g, m * 3, none⟩ = some (.int .i64 q.1.kind) ∧ wx.cell? ⟨g, m * 3 + 1, none⟩ = some q.2.1 ∧ wx.cell? ⟨g, m * 3 + 2, none⟩ = some q.2.2 := by
  have hr := h.own.row
  rw [h.len] at hr
  rcases hr.2 with ⟨-, h0⟩ | ⟨g, cap, cur, hv, hb, hg, hnc, hm, hs, ht⟩
  · omega
  · cases hv
    refine ⟨g, rfl, by omega, hp_lt hg, hnc, fun i => by simp [World.frozen?, hg], fun m q hq => ?_⟩
    have hc := fun (i : Nat) (u : Value) (hu : (ps.flatMap thr)[i]? = some u) => hr.cells (g := g) rfl i u hu
    have hadd : ∀ (i : Nat), ((⟨g, 0, none⟩ : Addr).add i) = ⟨g, i, none⟩ := fun i => by unfold Addr.add; by_cases e : i = 0 <;> simp [e]
    have hf := fun (i : Nat) (hi : i < 3) => fm_get thr 3 (fun _ => rfl) ps m i q hq hi
    have f0 := hc (m * 3) (.int .i64 q.1.kind) (by have := hf 0 (by omega); simpa using this)
    have f1 := hc (m * 3 + 1) q.2.1 (by have := hf 1 (by omega); simpa using this)
    have f2 := hc (m * 3 + 2) q.2.2 (by have := hf 2 (by omega); simpa using this)
    rw [hadd] at f0 f1 f2
    exact ⟨f0, f1, f2⟩
theorem set3_app (xs : List Value) (k : Nat) (hk : xs.length = k) (a0 a1 a2 b0 b1 b2 : Value) : (((xs ++ [a0, a1, a2]).set k b0).set (k + 1) b1).set (k + 2) b2 = xs ++ [b0, b1, b2] := by
  subst hk
  simp [List.set_append]
theorem K6.over {m g : Nat} {q : Rt} {p : RE} {sv lv : Value} {W' : World} (h : K6 l w j (some ⟨g, 0, none⟩) (m + 1) c (ps ++ [q]) wx) (hX : Below wx.heap.size wx X)
    (hW : W' = ((X.setCell ⟨g, m * 3, none⟩ (.int .i64 p.kind)).setCell ⟨g, m * 3 + 1, none⟩ sv).setCell ⟨g, m * 3 + 2, none⟩ lv)
    (hp : KP (fun k => w.heap.size < k ∧ (Value.slice (some ⟨g, 0, none⟩) (m + 1) c).ownBlock ≠ some k) X (fun w' => ReIs w' p sv lv)) (htr : ps.map (·.1) ++ [p] = M6.runR l (j + 1)) :
    K6 l w (j + 1) (some ⟨g, 0, none⟩) (m + 1) c (ps ++ [(p, sv, lv)]) W' := by
  have hm : ps.length = m := by have := h.len; simp at this; omega
  have hown := h.own.moved hX
  have hgb := (h.own.row.lt g rfl).1
  have hr := hown.row
  rw [show (ps ++ [q]).length = m + 1 by simp [hm]] at hr
  have hag : Ag (fun k => w.heap.size < k ∧ (Value.slice (some ⟨g, 0, none⟩) (m + 1) c).ownBlock ≠ some k) X W' := by
    rw [hW]
    exact ((((Ag.refl _ X).setCell (fun h => h.2 rfl) _).setCell (fun h => h.2 rfl) _).setCell (fun h => h.2 rfl) _)
  refine ⟨by simp [hm], ⟨?_, fun r hr' => ?_⟩, ?_, ?_, ?_⟩
  · have h4 := afowns_turn (j := m * 3 + 2) lv (afowns_turn (j := m * 3 + 1) sv (afowns_turn (j := m * 3) (.int .i64 p.kind) hr))
    rw [← hW] at h4
    have e : (ps ++ [q]).flatMap thr = ps.flatMap thr ++ [.int .i64 q.1.kind, q.2.1, q.2.2] := by simp
    rw [e, set3_app _ _ (by rw [thr_len, hm])] at h4
    have e2 : (ps ++ [(p, sv, lv)]).flatMap thr = ps.flatMap thr ++ [.int .i64 p.kind, sv, lv] := by simp
    rw [e2]
    simpa [hm] using h4
  · rcases List.mem_append.1 hr' with h1 | h1
    · exact (hown.keep r (by simp [h1])).to hag
    · simp at h1; subst h1; exact hp.to hag
  · simpa using htr
  · rw [hW]
    exact ((((h.bel.trans (hX.mono h.bel.size)).setCell (by simp; omega) _).setCell (by simp; omega) _).setCell (by simp; omega) _)
  · rw [hW, Below.heap_setCell _ _ _ _ (by simp; omega), Below.heap_setCell _ _ _ _ (by simp; omega), Below.heap_setCell _ _ _ _ (by simp; omega)]
    exact bel_get hX h.rb
theorem K6.both {m G9 : Nat} {q r : Rt} {p : RE} {sv lv : Value} {news : List Value} (h : K6 l w j o (m + 2) c (ps ++ [q, r]) wx) (hX : Below wx.heap.size wx X) (hG : G9 = X.heap.size)
    (hown9 : w9.ownsRow (w.heap.size + 1) 41 3 (.slice (some ⟨G9, 0, none⟩) (m + 1) c9) (m + 1) (ps.flatMap thr ++ news)) (hnews : news = thr (p, sv, lv)) (hb9 : Below X.heap.size X w9)
    (hp : KP (fun k => w.heap.size < k ∧ (Value.slice o (m + 2) c).ownBlock ≠ some k) X (fun w' => ReIs w' p sv lv)) (htr : ps.map (·.1) ++ [p] = M6.runR l (j + 1)) :
    K6 l w (j + 1) (some ⟨G9, 0, none⟩) (m + 1) c9 (ps ++ [(p, sv, lv)]) w9 := by
  subst hnews hG
  have hm : ps.length = m := by have := h.len; simp at this; omega
  have hown := h.own.moved hX
  have hXs := hX.size
  have hlt := h.lt
  have key : ∀ {F : World → Prop}, KP (fun k => w.heap.size < k ∧ (Value.slice o (m + 2) c).ownBlock ≠ some k) X F → KP (fun k => w.heap.size < k ∧ (Value.slice (some ⟨X.heap.size, 0, none⟩) (m + 1) c9).ownBlock ≠ some k) w9 F := by
    intro F hF
    refine KP.sub (S := fun k => (w.heap.size < k ∧ (Value.slice o (m + 2) c).ownBlock ≠ some k) ∧ k ≠ X.heap.size) ?_ (fun k hk hS => ⟨hS.1.1, fun e => hS.2 (by simpa [Value.ownBlock] using e.symm)⟩)
    exact (hF.sub (T := fun k => (w.heap.size < k ∧ (Value.slice o (m + 2) c).ownBlock ≠ some k) ∧ k ≠ X.heap.size) (fun k hk hS => ⟨hS, by omega⟩)).to (.of hb9)
  refine ⟨by simp [hm], ⟨?_, fun t ht => ?_⟩, by simpa using htr, bel_then (h.bel.trans (hX.mono h.bel.size)) hb9, bel_get hb9 (bel_get hX h.rb)⟩
  · have e2 : (ps ++ [(p, sv, lv)]).flatMap thr = ps.flatMap thr ++ thr (p, sv, lv) := by simp
    rw [e2]
    simpa [hm] using hown9
  · rcases List.mem_append.1 ht with h1 | h1
    · exact key (hown.keep t (by simp [h1]))
    · simp at h1; subst h1; exact key hp
theorem K6.same (h : K6 l w j o n c ps wx) (htr : M6.runR l (j + 1) = M6.runR l j) : K6 l w (j + 1) o n c ps wx := ⟨h.len, h.own, h.run.trans htr.symm, h.bel, h.rb⟩
theorem K6.now {k : Int} {v : Nat} (h : K6 l w j o n c ps wx) (hj : (j : Int) < (l.length : Int)) (hk : k = l.getD j 0) (hv : (IntKind.u64.wrap k).tmod 9 = (v : Int)) :
    (ps.map (·.1)).length = n ∧ M6.runR l (j + 1) = M6.stepR k (ps.map (·.1)) ∧ ((IntKind.u64.wrap k).tmod 9).toNat = v := by
  refine ⟨by rw [List.length_map]; exact h.len, ?_, by rw [hv]; omega⟩
  rw [M6.runR_next (by omega), ← hk, ← h.run]
theorem K6.leaf {k a b : Int} {v : Nat} (h : K6 l w j o n c ps wx) (hj : (j : Int) < (l.length : Int)) (hk : k = l.getD j 0) (hv : (IntKind.u64.wrap k).tmod 9 = (v : Int)) (hc : v < 4 ∨ n = 0) (ha : bits BinOp.and IntKind.i64 k 1 = a) (hb : bits BinOp.and IntKind.i64 (v : Int) 1 = b) :
    ps.map (·.1) ++ [M6.leafR a b] = M6.runR l (j + 1) := by
  obtain ⟨e1, e2, e3⟩ := h.now hj hk hv
  rw [e2]; unfold M6.stepR; rw [e3, e1, if_pos hc, ha, hb]
theorem K6.star {k : Int} {v m : Nat} {q : Rt} (h : K6 l w j o (m + 1) c (ps ++ [q]) wx) (hj : (j : Int) < (l.length : Int)) (hk : k = l.getD j 0) (hv : (IntKind.u64.wrap k).tmod 9 = (v : Int)) (hc : v = 4) :
    ps.map (·.1) ++ [.mk 5 [] [q.1]] = M6.runR l (j + 1) := by
  obtain ⟨e1, e2, e3⟩ := h.now hj hk hv
  rw [e2]; unfold M6.stepR; rw [e3, e1, if_neg (by omega), if_pos hc]
  simp [M6.lastR]
theorem K6.pair {k K : Int} {v m : Nat} {q r : Rt} (h : K6 l w j o (m + 2) c (ps ++ [q, r]) wx) (hj : (j : Int) < (l.length : Int)) (hk : k = l.getD j 0) (hv : (IntKind.u64.wrap k).tmod 9 = (v : Int)) (hc : 4 < v) (hK : K = if v < 7 then 3 else 4) :
    ps.map (·.1) ++ [.mk K [] [q.1, r.1]] = M6.runR l (j + 1) := by
  obtain ⟨e1, e2, e3⟩ := h.now hj hk hv
  have e : (ps ++ [q, r]).map (·.1) = (ps.map (·.1) ++ [q.1]) ++ [r.1] := by simp
  rw [e2]; unfold M6.stepR; rw [e3, e1, if_neg (by omega), if_neg (by omega)]
  split
  · rw [hK, if_pos (by omega), e, List.dropLast_concat, List.dropLast_concat, M6.lastR_snoc, M6.lastR_snoc]
  · rw [if_pos (by omega), hK, if_neg (by omega), e, List.dropLast_concat, List.dropLast_concat, M6.lastR_snoc, M6.lastR_snoc]
theorem K6.empty {k : Int} {v : Nat} (h : K6 l w j o n c ps wx) (hj : (j : Int) < (l.length : Int)) (hk : k = l.getD j 0) (hv : (IntKind.u64.wrap k).tmod 9 = (v : Int)) (hc : v = 8) (hn : n = 1) :
    ps.map (·.1) ++ [.mk 1 [] []] = M6.runR l (j + 1) := by
  obtain ⟨e1, e2, e3⟩ := h.now hj hk hv
  rw [e2]; unfold M6.stepR; rw [e3, e1, if_neg (by omega), if_neg (by omega), if_neg (by omega), if_neg (by omega), if_pos hc]
theorem K6.idle {k : Int} {v : Nat} (h : K6 l w j o n c ps wx) (hj : (j : Int) < (l.length : Int)) (hk : k = l.getD j 0) (hv : (IntKind.u64.wrap k).tmod 9 = (v : Int)) (hc : 4 < v) (hc2 : v ≠ 8) (hn : n = 1) :
    M6.runR l (j + 1) = M6.runR l j := by
  obtain ⟨e1, e2, e3⟩ := h.now hj hk hv
  rw [e2]; unfold M6.stepR; rw [e3, e1, if_neg (by omega), if_neg (by omega), if_neg (by omega), if_neg (by omega), if_neg hc2, h.run]
end
structure F6 (l : List Int) (w : World) (n g pb : Nat) (ps : List Rt) (i : Nat) (p : RE) (sv lv : Value) (wx : World) : Prop where
  hp : wx.heap[pb]? = some (.cells #[.int .i64 p.kind, sv, lv] 41 (0, 0))
  fld : p = M6.foldR ((ps.map (·.1)).take i)
  run : ps.map (·.1) = M6.runR l 14
  kp : KP (fun k => w.heap.size < k ∧ k ≠ pb) wx (fun w' => ReIs w' p sv lv)
  el : ∀ q ∈ ps, KP (fun k => w.heap.size < k ∧ k ≠ pb) wx (fun w' => ReIs w' q.1 q.2.1 q.2.2)
  cells : ∀ (m : Nat) (q : Rt), ps[m]? = some q → wx.cell? ⟨g, m * 3, none⟩ = some (.int .i64 q.1.kind) ∧ wx.cell? ⟨g, m * 3 + 1, none⟩ = some q.2.1 ∧ wx.cell? ⟨g, m * 3 + 2, none⟩ = some q.2.2
  len : ps.length = n
  gp : g < pb
  gr : w.heap.size < g
  bel : Below w.heap.size w wx
  rb : wx.heap[w.heap.size]? = some (.cells #[.int .i64 0, .slice none 0 0, .slice none 0 0] 41 (0, 0))
theorem F6.moved {l : List Int} {w wx wy : World} {n g pb i : Nat} {ps : List Rt} {p : RE} {sv lv : Value} (h : F6 l w n g pb ps i p sv lv wx) (hb : Below wx.heap.size wx wy) : F6 l w n g pb ps i p sv lv wy := by
  have hpl := hp_lt h.hp
  have hgp := h.gp
  refine ⟨bel_get hb h.hp, h.fld, h.run, h.kp.to (.of hb), fun q hq => (h.el q hq).to (.of hb), fun m q hq => ?_, h.len, h.gp, h.gr, bel_then h.bel hb, bel_get hb h.rb⟩
  obtain ⟨a, b, c⟩ := h.cells m q hq
  have hgl : g < wx.heap.size := by omega
  exact ⟨(hb.cell hgl).trans a, (hb.cell hgl).trans b, (hb.cell hgl).trans c⟩
theorem F6.start {l : List Int} {w wx : World} {j n c g : Nat} {ps : List Rt} {q : Rt} (h : K6 l w j (some ⟨g, 0, none⟩) n c ps wx) (hj : j ≤ 14) (he : l.length ≤ j ∨ j = 14) (hq : ps[0]? = some q) (hgr : w.heap.size < g) (hgl : g < wx.heap.size)
    (hcl : ∀ (m : Nat) (q : Rt), ps[m]? = some q → wx.cell? ⟨g, m * 3, none⟩ = some (.int .i64 q.1.kind) ∧ wx.cell? ⟨g, m * 3 + 1, none⟩ = some q.2.1 ∧ wx.cell? ⟨g, m * 3 + 2, none⟩ = some q.2.2) :
    F6 l w n g wx.heap.size ps 1 q.1 q.2.1 q.2.2 (wx.alloc (.cells #[.int .i64 q.1.kind, q.2.1, q.2.2] 41)) := by
  have hb : Below wx.heap.size wx (wx.alloc (.cells #[.int .i64 q.1.kind, q.2.1, q.2.2] 41)) := bel_new (Below.refl _ _) _
  have hel : ∀ r ∈ ps, KP (fun k => w.heap.size < k ∧ k ≠ wx.heap.size) (wx.alloc (.cells #[.int .i64 q.1.kind, q.2.1, q.2.2] 41)) (fun w' => ReIs w' r.1 r.2.1 r.2.2) := fun r hr =>
    ((h.own.keep r hr).sub (T := fun k => w.heap.size < k ∧ k ≠ wx.heap.size) (fun k hk hS => ⟨hS.1, by omega⟩)).to (.of hb)
  refine ⟨heap_alloc_new wx _, ?_, h.run.trans (M6.makeR_at hj he).symm, hel q (List.mem_of_getElem? hq), hel, ?_, h.len, hgl, hgr, bel_then h.bel hb, bel_get hb h.rb⟩
  · cases ps with
    | nil => simp at hq
    | cons a t => simp at hq; subst hq; rfl
  intro m r hr
  obtain ⟨a, b, c⟩ := hcl m r hr
  exact ⟨(hb.cell hgl).trans a, (hb.cell hgl).trans b, (hb.cell hgl).trans c⟩
theorem six_two {w : World} {k : Int} {p q : RE} {ps pl qs ql : Value} {b : Nat} (hp : ReIs w p ps pl) (hq : ReIs w q qs ql) (hb : w.heap[b]? = some (.cells #[.int .i64 p.kind, ps, pl, .int .i64 q.kind, qs, ql] 41 (0, 0))) :
    ReIs w (.mk k [] [p, q]) (.slice none 0 0) (.slice (some ⟨b, 0, none⟩) 2 2) := by
  refine .mk k [] [p, q] _ _ [(p.kind, ps, pl), (q.kind, qs, ql)] ⟨none, 0, rfl, by decide, by decide, .inl ⟨rfl, fun _ => rfl⟩⟩ ⟨_, 2, rfl, Nat.le_refl _, by show (2 : Nat) ≤ _; decide, .inr ⟨b, 0, rfl, hp_lt hb, ?_⟩⟩ rfl ?_ ?_
  · intro j u hu
    unfold World.cell?
    rw [show (⟨b, 0 + j, none⟩ : Addr).block = b from rfl, hb]
    match j, hu with
    | 0, h => simpa [trip] using h
    | 1, h => simpa [trip] using h
    | 2, h => simpa [trip] using h
    | 3, h => simpa [trip] using h
    | 4, h => simpa [trip] using h
    | 5, h => simpa [trip] using h
    | j + 6, h => simp [trip] at h
  · intro i e p he hp
    match i, he, hp with
    | 0, he, hp => cases he; cases hp; rfl
    | 1, he, hp => cases he; cases hp; rfl
    | i + 2, he, hp => simp at he
  · intro i e p' he hp'
    match i, he, hp' with
    | 0, he, hp' => cases he; cases hp'; exact hp
    | 1, he, hp' => cases he; cases hp'; exact hq
    | i + 2, he, hp' => simp at he
theorem six_one {w : World} {k : Int} {p : RE} {ps pl : Value} {b : Nat} (hp : ReIs w p ps pl) (hb : w.heap[b]? = some (.cells #[.int .i64 p.kind, ps, pl] 41 (0, 0))) :
    ReIs w (.mk k [] [p]) (.slice none 0 0) (.slice (some ⟨b, 0, none⟩) 1 1) := by
  refine .mk k [] [p] _ _ [(p.kind, ps, pl)] ⟨none, 0, rfl, by decide, by decide, .inl ⟨rfl, fun _ => rfl⟩⟩ ⟨_, 1, rfl, Nat.le_refl _, by show (1 : Nat) ≤ _; decide, .inr ⟨b, 0, rfl, hp_lt hb, ?_⟩⟩ rfl ?_ ?_
  · intro j u hu
    unfold World.cell?
    rw [show (⟨b, 0 + j, none⟩ : Addr).block = b from rfl, hb]
    match j, hu with
    | 0, h => simpa [trip] using h
    | 1, h => simpa [trip] using h
    | 2, h => simpa [trip] using h
    | j + 3, h => simp [trip] at h
  · intro i e p he hp
    match i, he, hp with
    | 0, he, hp => cases he; cases hp; rfl
    | i + 1, he, hp => simp at he
  · intro i e p' he hp'
    match i, he, hp' with
    | 0, he, hp' => cases he; cases hp'; exact hp
    | i + 1, he, hp' => simp at he
theorem six_nil {w : World} {k : Int} : ReIs w (.mk k [] []) (.slice none 0 0) (.slice none 0 0) := by
  refine .mk k [] [] _ _ [] ⟨none, 0, rfl, by decide, by decide, .inl ⟨rfl, fun _ => rfl⟩⟩ ⟨none, 0, rfl, by decide, by decide, .inl ⟨rfl, fun _ => rfl⟩⟩ rfl ?_ ?_
  · intro i e p he; simp at he
  · intro i e p he; simp at he
theorem six_leaf {w : World} {a b : Int} {q : Nat} (hq : w.heap[q]? = some (.cells #[.int .i32 a, .int .i32 b] 54 (0, 0))) : ReIs w (.mk 2 [(a, b)] []) (.slice (some ⟨q, 0, none⟩) 1 1) (.slice none 0 0) := by
  refine .mk 2 [(a, b)] [] _ _ [] ⟨_, 1, rfl, Nat.le_refl _, by show (1 : Nat) ≤ _; decide, .inr ⟨q, 0, rfl, hp_lt hq, fun j u hu => ?_⟩⟩ ⟨none, 0, rfl, by decide, by decide, .inl ⟨rfl, fun _ => rfl⟩⟩ rfl ?_ ?_
  · unfold World.cell?
    rw [show (⟨q, 0 + j, none⟩ : Addr).block = q from rfl, hq]
    match j, hu with
    | 0, h => simpa [flatK] using h
    | 1, h => simpa [flatK] using h
    | j + 2, h => simp [flatK] at h
  · intro i e p he; simp at he
  · intro i e p he; simp at he
theorem set_three {w : World} {p : Nat} {x0 x1 x2 : Value} {t : TypeId} (a b c : Value) (h : w.heap[p]? = some (.cells #[x0, x1, x2] t (0, 0))) :
    (((w.setCell ⟨p, 0, none⟩ a).setCell ⟨p, 1, none⟩ b).setCell ⟨p, 2, none⟩ c).heap[p]? = some (.cells #[a, b, c] t (0, 0)) := by
  simp [World.setCell, Array.getElem?_modify, h]
theorem F6.next {l : List Int} {w wx W' : World} {n g pb i : Nat} {ps : List Rt} {p : RE} {sv lv : Value} {q : Rt} (h : F6 l w n g pb ps i p sv lv wx) (hi : 1 ≤ i) (hq : ps[i]? = some q)
    (hW : W' = (((wx.alloc (.cells #[.int .i64 p.kind, sv, lv, .int .i64 q.1.kind, q.2.1, q.2.2] 41)).setCell ⟨pb, 0, none⟩ (.int .i64 3)).setCell ⟨pb, 1, none⟩ (.slice none 0 0)).setCell ⟨pb, 2, none⟩ (.slice (some ⟨wx.heap.size, 0, none⟩) 2 2)) :
    F6 l w n g pb ps (i + 1) (.mk 3 [] [p, q.1]) (.slice none 0 0) (.slice (some ⟨wx.heap.size, 0, none⟩) 2 2) W' := by
  have hpl := hp_lt h.hp
  have hrl := hp_lt h.rb
  have hgp := h.gp
  have hgr := h.gr
  have hb : Below wx.heap.size wx (wx.alloc (.cells #[.int .i64 p.kind, sv, lv, .int .i64 q.1.kind, q.2.1, q.2.2] 41)) := bel_new (Below.refl _ _) _
  have hag : Ag (fun k => w.heap.size < k ∧ k ≠ pb) (wx.alloc (.cells #[.int .i64 p.kind, sv, lv, .int .i64 q.1.kind, q.2.1, q.2.2] 41)) W' := by
    rw [hW]
    exact ((((Ag.refl _ _).setCell (fun h => h.2 rfl) _).setCell (fun h => h.2 rfl) _).setCell (fun h => h.2 rfl) _)
  have hoth : ∀ k, k ≠ pb → W'.heap[k]? = (wx.alloc (.cells #[.int .i64 p.kind, sv, lv, .int .i64 q.1.kind, q.2.1, q.2.2] 41)).heap[k]? := fun k hk => by
    rw [hW, Below.heap_setCell _ _ _ _ (by simpa using hk), Below.heap_setCell _ _ _ _ (by simpa using hk), Below.heap_setCell _ _ _ _ (by simpa using hk)]
  have hp1 := bel_get hb h.hp
  refine ⟨?_, ?_, h.run, ?_, fun r hr => ((h.el r hr).to (.of hb)).to hag, ?_, h.len, hgp, hgr, ?_, ?_⟩
  · rw [hW]
    exact set_three (.int .i64 3) (.slice none 0 0) (.slice (some ⟨wx.heap.size, 0, none⟩) 2 2) hp1
  · have e : (ps.map (·.1)).take (i + 1) = (ps.map (·.1)).take i ++ [q.1] := by
      rw [List.take_add_one]
      simp [hq]
    rw [e, M6.foldR_snoc _ _ (by
      have hil : i < ps.length := (List.getElem?_eq_some_iff.1 hq).1
      simp; omega), ← h.fld]
  · refine KP.to ?_ hag
    exact afkp_and (afkp_and (h.kp.to (.of hb)) ((h.el q (List.mem_of_getElem? hq)).to (.of hb)) (fun w' h1 h2 => And.intro h1 h2)) (KP.block (heap_alloc_new wx _) ⟨by omega, by omega⟩) (fun w' h1 h2 => six_two h1.1 h1.2 h2)
  · intro m r hr
    obtain ⟨a, b, c⟩ := h.cells m r hr
    have e : ∀ x, W'.cell? ⟨g, x, none⟩ = wx.cell? ⟨g, x, none⟩ := fun x => by
      refine Eq.trans ?_ (hb.cell (p := ⟨g, x, none⟩) (show g < wx.heap.size by omega))
      unfold World.cell?
      rw [hoth g (by omega)]
    rw [e, e, e]
    exact ⟨a, b, c⟩
  · rw [hW]
    have hp2 : w.heap.size ≤ pb := by omega
    exact ((((bel_then h.bel hb)).setCell hp2 _).setCell hp2 _).setCell hp2 _
  · rw [hoth _ (by omega)]; exact bel_get hb h.rb
end Go.Proofs.YtmgfpcblbbpahaaGreat
