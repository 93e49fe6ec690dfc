/- Merged. -/
import Derived.Test.YtfkmajjgkdjncaaGreatDoorAppF
import Derived.Test.YtfkmajjgkdjncaaGreatDoorPrNone
import Derived.Test.YtfkmajjgkdjncaaGreatDoorGMk0
import Derived.Deep.RegionHeld3
import Derived.Deep.RegionLaw
import Derived.Deep.LoopGhost
set_option linter.unusedVariables false
set_option linter.unusedSimpArgs false
namespace Go.Proofs.YtfkmajjgkdjncaaGreatDoor
open Go.RowKit Ru
namespace M6
def lastR (s : List RE) : RE := s.getLast?.getD (.mk 0 [] [])
def oneR (r : Int) : RE := .mk 2 [(r, r)] []
def leafR (a b : Int) : RE := .mk 2 [(97 + a, 97 + a + b)] []
def stepR (k : Int) (s : List RE) : List RE :=
 let v := ((IntKind.u64.wrap k).tmod 9).toNat
 if v < 4 ∨ s.length = 0 then s ++ [leafR (bits BinOp.and IntKind.i64 k 1) (bits BinOp.and IntKind.i64 (v : Int) 1)]
 else if v = 4 then s.dropLast ++ [.mk 5 [] [lastR s]]
 else if 1 < s.length ∧ v < 7 then s.dropLast.dropLast ++ [.mk 3 [] [lastR s.dropLast, lastR s]]
 else if 1 < s.length then s.dropLast.dropLast ++ [.mk 4 [] [lastR s.dropLast, lastR s]]
 else if v = 8 then s ++ [.mk 1 [] []]
 else s
def runR (l : List Int) : Nat → List RE
 | 0 => []
 | j + 1 => if j < l.length then stepR (l.getD j 0) (runR l j) else runR l j
theorem runR_next {l : List Int} {j : Nat} (h : j < l.length) : runR l (j + 1) = stepR (l.getD j 0) (runR l j) := if_pos h
theorem runR_stop {l : List Int} {j : Nat} (h : l.length ≤ j) : ∀ d, runR l (j + d) = runR l j
 | 0 => rfl
 | d + 1 => by rw [← Nat.add_assoc]; exact (if_neg (by omega)).trans (runR_stop h d)
def foldR : List RE → RE
 | [] => oneR 97
 | a :: t => t.foldl (fun e p => .mk 3 [] [e, p]) a
theorem foldR_snoc (s : List RE) (q : RE) (h : 0 < s.length) : foldR (s ++ [q]) = .mk 3 [] [foldR s, q] := by
 cases s with
 | nil => simp at h
 | cons a t => simp [foldR, List.foldl_append]
def makeR (l : List Int) : RE := if (foldR (runR l 14)).may = true then foldR (runR l 14) else oneR 98
theorem makeR_at {l : List Int} {j : Nat} (hj : j ≤ 14) (h : l.length ≤ j ∨ j = 14) : runR l 14 = runR l j := by
 rcases h with h | h
 · have := runR_stop h (14 - j); rwa [show j + (14 - j) = 14 by omega] at this
 · rw [h]
inductive G6 : RE → Prop
 | empty : G6 (.mk 1 [] [])
 | leaf {a b : Int} (ha : 97 ≤ a) (hab : a ≤ b) (hb : b ≤ 99) : G6 (.mk 2 [(a, b)] [])
 | star {p : RE} (h : G6 p) : G6 (.mk 5 [] [p])
 | two {k : Int} {p q : RE} (hk : k = 3 ∨ k = 4) (h : G6 p) (h2 : G6 q) : G6 (.mk k [] [p, q])
theorem g6_one {r : Int} (h : 97 ≤ r ∧ r ≤ 99) : G6 (oneR r) := .leaf h.1 (Int.le_refl _) h.2
theorem G6.fit {e : RE} (h : G6 e) : e.Fit := by
 induction h with
 | empty => exact .mk _ _ _ (fun p hp => by simp at hp) (by simp) (by simp) (fun i e he => by simp at he)
 | leaf ha hab hb => exact .mk _ _ _ (fun p hp => by simp at hp; subst hp; simp; omega) (by simp) (by simp) (fun i e he => by simp at he)
 | star h ih => exact .mk _ _ _ (fun p hp => by simp at hp) (by simp) (by simp) (fun i e he => by
  match i, he with
  | 0, he => cases he; exact ih
  | i + 1, he => simp at he)
 | two hk h h2 ih ih2 => exact .mk _ _ _ (fun p hp => by simp at hp) (by simp) (by simp) (fun i e he => by
  match i, he with
  | 0, he => cases he; exact ih
  | 1, he => cases he; exact ih2
  | i + 2, he => simp at he)
theorem G6.nn {e : RE} (h : G6 e) : e.nn = false := by
 induction h with
 | empty => rw [RE.nn_eq]; simp [RE.kind, RE.parts, RE.nnL_not]
 | leaf ha hab hb => rw [RE.nn_eq]; simp [RE.kind, RE.parts, RE.nnL_not]
 | star h ih =>
  rw [RE.nn_eq]
  rw [RE.nnL_not (fun i hi => by
   match i, hi with
   | 0, hi => intro p hp; cases hp; exact ih
   | i + 1, hi => simp [RE.parts] at hi)]
  simp [RE.kind]
 | two hk h h2 ih ih2 =>
  rw [RE.nn_eq]
  rw [RE.nnL_not (fun i hi => by
   match i, hi with
   | 0, hi => intro p hp; cases hp; exact ih
   | 1, hi => intro p hp; cases hp; exact ih2
   | i + 2, hi => exact absurd hi (by simp [RE.parts]))]
  rcases hk with rfl | rfl <;> simp [RE.kind]
theorem wrap_bit (k : Int) : 0 ≤ bits BinOp.and IntKind.i64 k 1 ∧ bits BinOp.and IntKind.i64 k 1 ≤ 1 := by
 rcases afbits_one k with h | h <;> rw [h] <;> decide
theorem lastR_snoc (s : List RE) (p : RE) : lastR (s ++ [p]) = p := by simp [lastR]
structure Good (j : Nat) (s : List RE) : Prop where
 all : ∀ p ∈ s, G6 p
 len : s.length ≤ j
 size : RE.sizes s ≤ j
theorem sizes_append : ∀ (a b : List RE), RE.sizes (a ++ b) = RE.sizes a + RE.sizes b := by
 intro a b
 induction a with
 | nil => simp [RE.sizes_nil]
 | cons x a ih => rw [List.cons_append, RE.sizes_cons, RE.sizes_cons, ih]; omega
theorem cut_last {s : List RE} (h : 0 < s.length) : s = s.dropLast ++ [lastR s] := by
 rcases List.eq_nil_or_concat s with rfl | ⟨l, q, rfl⟩
 · simp at h
 · simp [lastR]
theorem Good.step {j : Nat} {s : List RE} (k : Int) (h : Good j s) : Good (j + 1) (stepR k s) := by
 have hb := wrap_bit k
 obtain ⟨v, hv⟩ : ∃ v, v = ((IntKind.u64.wrap k).tmod 9).toNat := ⟨_, rfl⟩
 have hb2 := wrap_bit (v : Int)
 unfold stepR
 rw [← hv]
 have hl := h.len
 have hz := h.size
 simp only
 split
 · refine ⟨fun p hp => ?_, by simp; omega, by rw [sizes_append, RE.sizes_cons, RE.sizes_nil, leafR, RE.size_mk, RE.sizes_nil]; omega⟩
   rcases List.mem_append.1 hp with h1 | h1
   · exact h.all p h1
   · simp at h1; subst h1; exact .leaf (by omega) (by omega) (by omega)
 · rename_i h1
   have e1 := cut_last (s := s) (by omega)
   have z1 : RE.sizes s = RE.sizes s.dropLast + (lastR s).size := by
    rw [congrArg RE.sizes e1, sizes_append, RE.sizes_cons, RE.sizes_nil]; omega
   have l1 : s.length = s.dropLast.length + 1 := by simp; omega
   have g1 : G6 (lastR s) := h.all _ (by rw [e1]; simp [lastR])
   have gd : ∀ p ∈ s.dropLast, G6 p := fun p hp => h.all p (List.dropLast_subset s hp)
   split
   · refine ⟨fun p hp => ?_, by simp; omega, by rw [sizes_append, RE.sizes_cons, RE.sizes_nil, RE.size_mk, RE.sizes_cons, RE.sizes_nil]; omega⟩
     rcases List.mem_append.1 hp with h2 | h2
     · exact gd p h2
     · simp at h2; subst h2; exact .star g1
   · have two : 1 < s.length → ∀ kk : Int, kk = 3 ∨ kk = 4 → Good (j + 1) (s.dropLast.dropLast ++ [.mk kk [] [lastR s.dropLast, lastR s]]) := by
      intro h2 kk hkk
      have e2 := cut_last (s := s.dropLast) (by simp; omega)
      have z2 : RE.sizes s.dropLast = RE.sizes s.dropLast.dropLast + (lastR s.dropLast).size := by
       rw [congrArg RE.sizes e2, sizes_append, RE.sizes_cons, RE.sizes_nil]; omega
      have g2 : G6 (lastR s.dropLast) := gd _ (by rw [e2]; simp [lastR])
      refine ⟨fun p hp => ?_, by simp; omega, by rw [sizes_append, RE.sizes_cons, RE.sizes_nil, RE.size_mk, RE.sizes_cons, RE.sizes_cons, RE.sizes_nil]; omega⟩
      rcases List.mem_append.1 hp with h3 | h3
      · exact gd p (List.dropLast_subset s.dropLast h3)
      · simp at h3; subst h3; exact .two hkk g2 g1
     split
     · rename_i h2; exact two h2.1 3 (.inl rfl)
     · split
       · rename_i h2; exact two h2 4 (.inr rfl)
       · split
         · refine ⟨fun p hp => ?_, by simp; omega, by rw [sizes_append, RE.sizes_cons, RE.sizes_nil, RE.size_mk, RE.sizes_nil]; omega⟩
           rcases List.mem_append.1 hp with h2 | h2
           · exact h.all p h2
           · simp at h2; subst h2; exact .empty
         · exact ⟨h.all, by omega, by omega⟩
theorem good_run (l : List Int) : ∀ j, Good j (runR l j)
 | 0 => ⟨fun p h => by simp [runR] at h, by simp [runR], by simp [runR, RE.sizes_nil]⟩
 | j + 1 => by
  unfold runR
  split
  · exact (good_run l j).step _
  · have := good_run l j; exact ⟨this.all, by have := this.len; omega, by have := this.size; omega⟩
theorem fold_good : ∀ (s : List RE) (a : RE), G6 a → (∀ p ∈ s, G6 p) → G6 (s.foldl (fun e p => .mk 3 [] [e, p]) a) ∧ (s.foldl (fun e p => RE.mk 3 [] [e, p]) a).size = a.size + RE.sizes s + s.length := by
 intro s
 induction s with
 | nil => intro a ha _; exact ⟨ha, by simp [RE.sizes_nil]⟩
 | cons x s ih =>
  intro a ha h
  obtain ⟨h1, h2⟩ := ih (.mk 3 [] [a, x]) (.two (.inl rfl) ha (h x (by simp))) (fun p hp => h p (by simp [hp]))
  refine ⟨h1, ?_⟩
  rw [List.foldl_cons, h2, RE.size_mk, RE.sizes_cons, RE.sizes_cons, RE.sizes_nil, RE.sizes_cons, List.length_cons]
  omega
theorem foldR_good {j : Nat} {s : List RE} (h : Good j s) : G6 (foldR s) ∧ (foldR s).size ≤ 2 * j + 1 := by
 cases s with
 | nil => exact ⟨g6_one (by decide), by rw [foldR, oneR, RE.size_mk, RE.sizes_nil]; omega⟩
 | cons a t =>
  obtain ⟨h1, h2⟩ := fold_good t a (h.all a (by simp)) (fun p hp => h.all p (by simp [hp]))
  refine ⟨h1, ?_⟩
  have := h.len
  have := h.size
  rw [RE.sizes_cons] at this
  simp at *
  rw [foldR, h2]
  omega
theorem makeR_ok (l : List Int) : G6 (makeR l) ∧ (makeR l).may = true ∧ (makeR l).size ≤ 29 := by
 obtain ⟨h1, h2⟩ := foldR_good (good_run l 14)
 unfold makeR
 split
 · rename_i h; exact ⟨h1, h, by omega⟩
 · exact ⟨g6_one (by decide), by decide +kernel, by rw [oneR, RE.size_mk, RE.sizes_nil]; omega⟩
end M6
end Go.Proofs.YtfkmajjgkdjncaaGreatDoor

namespace Go.Proofs.YtfkmajjgkdjncaaGreatDoor
open Go.RowKit Ru
abbrev Rt := RE × Value × Value
abbrev thr (p : Rt) : List Value := [.int .i64 p.1.kind, p.2.1, p.2.2]
theorem thr_len : ∀ (l : List Rt), (l.flatMap thr).length = l.length * 3 := by
 intro l
 induction l with
 | nil => rfl
 | cons a l ih => simp [List.flatMap_cons, ih]; omega
theorem infoReM : ∃ i, Tryz.prog.info? 35 = some i ∧ i.zero = some (.agg #[.int .i64 0, .slice none 0 0, .slice none 0 0]) ∧ i.size = 3 ∧ i.bytes = 56 := info_parts (by kernel_rfl)
abbrev ReO (X : Nat → Prop) (w : World) (B : Nat) (v : Value) (ps : List Rt) : Prop := Own X w B 35 3 v thr (fun w' p => ReIs w' p.1 p.2.1 p.2.2) ps
structure K6 (l : List Int) (w : World) (j : Nat) (o : Option Addr) (n c : Nat) (ps : List Rt) (wx : World) : Prop where
 len : ps.length = n
 own : ReO (fun k => w.heap.size < k) wx (w.heap.size + 1) (.slice o n c) ps
 run : ps.map (·.1) = M6.runR l j
 bel : Below w.heap.size w wx
 rb : wx.heap[w.heap.size]? = some (.cells #[.int .i64 0, .slice none 0 0, .slice none 0 0] 35 (0, 0))
section
variable {l : List Int} {w wx wy X w9 : World} {j n c c9 : Nat} {o o9 : Option Addr} {ps : List Rt}
theorem K6.start (l : List Int) (w : World) : K6 l w 0 none 0 0 [] (w.alloc (.cells #[.int .i64 0, .slice none 0 0, .slice none 0 0] 35)) :=
 ⟨rfl, Own.nil, rfl, bel_new (Below.refl _ _) _, heap_alloc_new w _⟩
theorem K6.lt (h : K6 l w j o n c ps wx) : w.heap.size < wx.heap.size := hp_lt h.rb
theorem K6.len14 (h : K6 l w j o n c ps wx) : n ≤ j := by
 have := (M6.good_run l j).len
 rw [← h.run] at this
 simpa [h.len] using this
theorem K6.push {news : List Value} {p : RE} {sv lv : Value} (h : K6 l w j o n c ps wx)
 (hX : Below wx.heap.size wx X) (hown9 : w9.ownsRow (w.heap.size + 1) 35 3 (.slice o9 (n + 1) c9) (n + 1) (ps.flatMap thr ++ news)) (hnews : news = thr (p, sv, lv))
 (hg9 : X.grownBy w9 (Value.slice o n c).ownBlock) (hf9 : ∀ k, (Value.slice o9 (n + 1) c9).ownBlock = some k → (Value.slice o n c).ownBlock = some k ∨ X.heap.size ≤ k)
 (hp : KP (fun k => w.heap.size < k ∧ (Value.slice o n c).ownBlock ≠ some k) X (fun w' => ReIs w' p sv lv)) (htr : ps.map (·.1) ++ [p] = M6.runR l (j + 1)) :
 ∃ ps', K6 l w (j + 1) o9 (n + 1) c9 ps' w9 := by
 subst hnews
 have hrow := h.own.row
 have hlt := h.lt
 have hXs := hX.size
 have hpush := (h.own.moved hX).push (w' := w9) (v' := .slice o9 (n + 1) c9) (p := (p, sv, lv)) (by rw [h.len]; exact hown9) hg9 hf9 hp
 refine ⟨ps ++ [(p, sv, lv)], by simp [h.len], hpush, by simpa using htr, ?_, ?_⟩
 · exact (h.bel.trans (hX.mono h.bel.size)).grown hg9 (by omega) (fun k hk => by have := (hrow.lt k hk).1; omega)
 · rw [hg9.block _ (by omega) (fun e => by have := (hrow.lt _ e.symm).1; omega)]; exact bel_get hX h.rb
theorem K6.own_cells (h : K6 l w j o n c ps wx) (hn : 0 < n) :
 ∃ g, o = some ⟨g, 0, none⟩ ∧ w.heap.size < g ∧ g < wx.heap.size ∧ n ≤ c ∧ (∀ i, wx.frozen? ⟨g, i, none⟩ = false) ∧ ∀ (m : Nat) (q : Rt), ps[m]? = some q →
  wx.cell? ⟨g, m * 3, none⟩ = some (.int .i64 q.1.kind) ∧ wx.cell? ⟨g, m * 3 + 1, none⟩ = some q.2.1 ∧ wx.cell? ⟨g, m * 3 + 2, none⟩ = some q.2.2 := by
 have hr := h.own.row
 rw [h.len] at hr
 rcases hr.2 with ⟨-, h0⟩ | ⟨g, cap, cur, hv, hb, hg, hnc, hm, hs, ht⟩
 · omega
 · cases hv
   refine ⟨g, rfl, by omega, hp_lt hg, hnc, fun i => by simp [World.frozen?, hg], fun m q hq => ?_⟩
   have hc := fun (i : Nat) (u : Value) (hu : (ps.flatMap thr)[i]? = some u) => hr.cells (g := g) rfl i u hu
   have hadd : ∀ (i : Nat), ((⟨g, 0, none⟩ : Addr).add i) = ⟨g, i, none⟩ := fun i => by unfold Addr.add; by_cases e : i = 0 <;> simp [e]
   have hf := fun (i : Nat) (hi : i < 3) => fm_get thr 3 (fun _ => rfl) ps m i q hq hi
   have f0 := hc (m * 3) (.int .i64 q.1.kind) (by have := hf 0 (by omega); simpa using this)
   have f1 := hc (m * 3 + 1) q.2.1 (by have := hf 1 (by omega); simpa using this)
   have f2 := hc (m * 3 + 2) q.2.2 (by have := hf 2 (by omega); simpa using this)
   rw [hadd] at f0 f1 f2
   exact ⟨f0, f1, f2⟩
theorem set3_app (xs : List Value) (k : Nat) (hk : xs.length = k) (a0 a1 a2 b0 b1 b2 : Value) : (((xs ++ [a0, a1, a2]).set k b0).set (k + 1) b1).set (k + 2) b2 = xs ++ [b0, b1, b2] := by
 subst hk
 simp [List.set_append]
theorem K6.over {m g : Nat} {q : Rt} {p : RE} {sv lv : Value} {W' : World} (h : K6 l w j (some ⟨g, 0, none⟩) (m + 1) c (ps ++ [q]) wx) (hX : Below wx.heap.size wx X)
 (hW : W' = ((X.setCell ⟨g, m * 3, none⟩ (.int .i64 p.kind)).setCell ⟨g, m * 3 + 1, none⟩ sv).setCell ⟨g, m * 3 + 2, none⟩ lv)
 (hp : KP (fun k => w.heap.size < k ∧ (Value.slice (some ⟨g, 0, none⟩) (m + 1) c).ownBlock ≠ some k) X (fun w' => ReIs w' p sv lv)) (htr : ps.map (·.1) ++ [p] = M6.runR l (j + 1)) :
 K6 l w (j + 1) (some ⟨g, 0, none⟩) (m + 1) c (ps ++ [(p, sv, lv)]) W' := by
 have hm : ps.length = m := by have := h.len; simp at this; omega
 have hown := h.own.moved hX
 have hgb := (h.own.row.lt g rfl).1
 have hr := hown.row
 rw [show (ps ++ [q]).length = m + 1 by simp [hm]] at hr
 have hag : Ag (fun k => w.heap.size < k ∧ (Value.slice (some ⟨g, 0, none⟩) (m + 1) c).ownBlock ≠ some k) X W' := by
  rw [hW]
  exact ((((Ag.refl _ X).setCell (fun h => h.2 rfl) _).setCell (fun h => h.2 rfl) _).setCell (fun h => h.2 rfl) _)
 refine ⟨by simp [hm], ⟨?_, fun r hr' => ?_⟩, ?_, ?_, ?_⟩
 · have h4 := afowns_turn (j := m * 3 + 2) lv (afowns_turn (j := m * 3 + 1) sv (afowns_turn (j := m * 3) (.int .i64 p.kind) hr))
   rw [← hW] at h4
   have e : (ps ++ [q]).flatMap thr = ps.flatMap thr ++ [.int .i64 q.1.kind, q.2.1, q.2.2] := by simp
   rw [e, set3_app _ _ (by rw [thr_len, hm])] at h4
   have e2 : (ps ++ [(p, sv, lv)]).flatMap thr = ps.flatMap thr ++ [.int .i64 p.kind, sv, lv] := by simp
   rw [e2]
   simpa [hm] using h4
 · rcases List.mem_append.1 hr' with h1 | h1
   · exact (hown.keep r (by simp [h1])).to hag
   · simp at h1; subst h1; exact hp.to hag
 · simpa using htr
 · rw [hW]
   exact ((((h.bel.trans (hX.mono h.bel.size)).setCell (by simp; omega) _).setCell (by simp; omega) _).setCell (by simp; omega) _)
 · rw [hW, Below.heap_setCell _ _ _ _ (by simp; omega), Below.heap_setCell _ _ _ _ (by simp; omega), Below.heap_setCell _ _ _ _ (by simp; omega)]
   exact bel_get hX h.rb
theorem K6.both {m G9 : Nat} {q r : Rt} {p : RE} {sv lv : Value} {news : List Value} (h : K6 l w j o (m + 2) c (ps ++ [q, r]) wx) (hX : Below wx.heap.size wx X) (hG : G9 = X.heap.size)
 (hown9 : w9.ownsRow (w.heap.size + 1) 35 3 (.slice (some ⟨G9, 0, none⟩) (m + 1) c9) (m + 1) (ps.flatMap thr ++ news)) (hnews : news = thr (p, sv, lv)) (hb9 : Below X.heap.size X w9)
 (hp : KP (fun k => w.heap.size < k ∧ (Value.slice o (m + 2) c).ownBlock ≠ some k) X (fun w' => ReIs w' p sv lv)) (htr : ps.map (·.1) ++ [p] = M6.runR l (j + 1)) :
 K6 l w (j + 1) (some ⟨G9, 0, none⟩) (m + 1) c9 (ps ++ [(p, sv, lv)]) w9 := by
 subst hnews hG
 have hm : ps.length = m := by have := h.len; simp at this; omega
 have hown := h.own.moved hX
 have hXs := hX.size
 have hlt := h.lt
 have key : ∀ {F : World → Prop}, KP (fun k => w.heap.size < k ∧ (Value.slice o (m + 2) c).ownBlock ≠ some k) X F → KP (fun k => w.heap.size < k ∧ (Value.slice (some ⟨X.heap.size, 0, none⟩) (m + 1) c9).ownBlock ≠ some k) w9 F := by
  intro F hF
  refine KP.sub (S := fun k => (w.heap.size < k ∧ (Value.slice o (m + 2) c).ownBlock ≠ some k) ∧ k ≠ X.heap.size) ?_ (fun k hk hS => ⟨hS.1.1, fun e => hS.2 (by simpa [Value.ownBlock] using e.symm)⟩)
  exact (hF.sub (T := fun k => (w.heap.size < k ∧ (Value.slice o (m + 2) c).ownBlock ≠ some k) ∧ k ≠ X.heap.size) (fun k hk hS => ⟨hS, by omega⟩)).to (.of hb9)
 refine ⟨by simp [hm], ⟨?_, fun t ht => ?_⟩, by simpa using htr, bel_then (h.bel.trans (hX.mono h.bel.size)) hb9, bel_get hb9 (bel_get hX h.rb)⟩
 · have e2 : (ps ++ [(p, sv, lv)]).flatMap thr = ps.flatMap thr ++ thr (p, sv, lv) := by simp
   rw [e2]
   simpa [hm] using hown9
 · rcases List.mem_append.1 ht with h1 | h1
   · exact key (hown.keep t (by simp [h1]))
   · simp at h1; subst h1; exact key hp
theorem K6.same (h : K6 l w j o n c ps wx) (htr : M6.runR l (j + 1) = M6.runR l j) : K6 l w (j + 1) o n c ps wx := ⟨h.len, h.own, h.run.trans htr.symm, h.bel, h.rb⟩
theorem K6.now {k : Int} {v : Nat} (h : K6 l w j o n c ps wx) (hj : (j : Int) < (l.length : Int)) (hk : k = l.getD j 0) (hv : (IntKind.u64.wrap k).tmod 9 = (v : Int)) :
 (ps.map (·.1)).length = n ∧ M6.runR l (j + 1) = M6.stepR k (ps.map (·.1)) ∧ ((IntKind.u64.wrap k).tmod 9).toNat = v := by
 refine ⟨by rw [List.length_map]; exact h.len, ?_, by rw [hv]; omega⟩
 rw [M6.runR_next (by omega), ← hk, ← h.run]
theorem K6.leaf {k a b : Int} {v : Nat} (h : K6 l w j o n c ps wx) (hj : (j : Int) < (l.length : Int)) (hk : k = l.getD j 0) (hv : (IntKind.u64.wrap k).tmod 9 = (v : Int)) (hc : v < 4 ∨ n = 0) (ha : bits BinOp.and IntKind.i64 k 1 = a) (hb : bits BinOp.and IntKind.i64 (v : Int) 1 = b) :
 ps.map (·.1) ++ [M6.leafR a b] = M6.runR l (j + 1) := by
 obtain ⟨e1, e2, e3⟩ := h.now hj hk hv
 rw [e2]; unfold M6.stepR; rw [e3, e1, if_pos hc, ha, hb]
theorem K6.star {k : Int} {v m : Nat} {q : Rt} (h : K6 l w j o (m + 1) c (ps ++ [q]) wx) (hj : (j : Int) < (l.length : Int)) (hk : k = l.getD j 0) (hv : (IntKind.u64.wrap k).tmod 9 = (v : Int)) (hc : v = 4) :
 ps.map (·.1) ++ [.mk 5 [] [q.1]] = M6.runR l (j + 1) := by
 obtain ⟨e1, e2, e3⟩ := h.now hj hk hv
 rw [e2]; unfold M6.stepR; rw [e3, e1, if_neg (by omega), if_pos hc]
 simp [M6.lastR]
theorem K6.pair {k K : Int} {v m : Nat} {q r : Rt} (h : K6 l w j o (m + 2) c (ps ++ [q, r]) wx) (hj : (j : Int) < (l.length : Int)) (hk : k = l.getD j 0) (hv : (IntKind.u64.wrap k).tmod 9 = (v : Int)) (hc : 4 < v) (hK : K = if v < 7 then 3 else 4) :
 ps.map (·.1) ++ [.mk K [] [q.1, r.1]] = M6.runR l (j + 1) := by
 obtain ⟨e1, e2, e3⟩ := h.now hj hk hv
 have e : (ps ++ [q, r]).map (·.1) = (ps.map (·.1) ++ [q.1]) ++ [r.1] := by simp
 rw [e2]; unfold M6.stepR; rw [e3, e1, if_neg (by omega), if_neg (by omega)]
 split
 · rw [hK, if_pos (by omega), e, List.dropLast_concat, List.dropLast_concat, M6.lastR_snoc, M6.lastR_snoc]
 · rw [if_pos (by omega), hK, if_neg (by omega), e, List.dropLast_concat, List.dropLast_concat, M6.lastR_snoc, M6.lastR_snoc]
theorem K6.empty {k : Int} {v : Nat} (h : K6 l w j o n c ps wx) (hj : (j : Int) < (l.length : Int)) (hk : k = l.getD j 0) (hv : (IntKind.u64.wrap k).tmod 9 = (v : Int)) (hc : v = 8) (hn : n = 1) :
 ps.map (·.1) ++ [.mk 1 [] []] = M6.runR l (j + 1) := by
 obtain ⟨e1, e2, e3⟩ := h.now hj hk hv
 rw [e2]; unfold M6.stepR; rw [e3, e1, if_neg (by omega), if_neg (by omega), if_neg (by omega), if_neg (by omega), if_pos hc]
theorem K6.idle {k : Int} {v : Nat} (h : K6 l w j o n c ps wx) (hj : (j : Int) < (l.length : Int)) (hk : k = l.getD j 0) (hv : (IntKind.u64.wrap k).tmod 9 = (v : Int)) (hc : 4 < v) (hc2 : v ≠ 8) (hn : n = 1) :
 M6.runR l (j + 1) = M6.runR l j := by
 obtain ⟨e1, e2, e3⟩ := h.now hj hk hv
 rw [e2]; unfold M6.stepR; rw [e3, e1, if_neg (by omega), if_neg (by omega), if_neg (by omega), if_neg (by omega), if_neg hc2, h.run]
end
structure F6 (l : List Int) (w : World) (n g pb : Nat) (ps : List Rt) (i : Nat) (p : RE) (sv lv : Value) (wx : World) : Prop where
 hp : wx.heap[pb]? = some (.cells #[.int .i64 p.kind, sv, lv] 35 (0, 0))
 fld : p = M6.foldR ((ps.map (·.1)).take i)
 run : ps.map (·.1) = M6.runR l 14
 kp : KP (fun k => w.heap.size < k ∧ k ≠ pb) wx (fun w' => ReIs w' p sv lv)
 el : ∀ q ∈ ps, KP (fun k => w.heap.size < k ∧ k ≠ pb) wx (fun w' => ReIs w' q.1 q.2.1 q.2.2)
 cells : ∀ (m : Nat) (q : Rt), ps[m]? = some q → wx.cell? ⟨g, m * 3, none⟩ = some (.int .i64 q.1.kind) ∧ wx.cell? ⟨g, m * 3 + 1, none⟩ = some q.2.1 ∧ wx.cell? ⟨g, m * 3 + 2, none⟩ = some q.2.2
 len : ps.length = n
 gp : g < pb
 gr : w.heap.size < g
 bel : Below w.heap.size w wx
 rb : wx.heap[w.heap.size]? = some (.cells #[.int .i64 0, .slice none 0 0, .slice none 0 0] 35 (0, 0))
theorem F6.moved {l : List Int} {w wx wy : World} {n g pb i : Nat} {ps : List Rt} {p : RE} {sv lv : Value} (h : F6 l w n g pb ps i p sv lv wx) (hb : Below wx.heap.size wx wy) : F6 l w n g pb ps i p sv lv wy := by
 have hpl := hp_lt h.hp
 have hgp := h.gp
 refine ⟨bel_get hb h.hp, h.fld, h.run, h.kp.to (.of hb), fun q hq => (h.el q hq).to (.of hb), fun m q hq => ?_, h.len, h.gp, h.gr, bel_then h.bel hb, bel_get hb h.rb⟩
 obtain ⟨a, b, c⟩ := h.cells m q hq
 have hgl : g < wx.heap.size := by omega
 exact ⟨(hb.cell hgl).trans a, (hb.cell hgl).trans b, (hb.cell hgl).trans c⟩
theorem F6.start {l : List Int} {w wx : World} {j n c g : Nat} {ps : List Rt} {q : Rt} (h : K6 l w j (some ⟨g, 0, none⟩) n c ps wx) (hj : j ≤ 14) (he : l.length ≤ j ∨ j = 14) (hq : ps[0]? = some q) (hgr : w.heap.size < g) (hgl : g < wx.heap.size)
 (hcl : ∀ (m : Nat) (q : Rt), ps[m]? = some q → wx.cell? ⟨g, m * 3, none⟩ = some (.int .i64 q.1.kind) ∧ wx.cell? ⟨g, m * 3 + 1, none⟩ = some q.2.1 ∧ wx.cell? ⟨g, m * 3 + 2, none⟩ = some q.2.2) :
 F6 l w n g wx.heap.size ps 1 q.1 q.2.1 q.2.2 (wx.alloc (.cells #[.int .i64 q.1.kind, q.2.1, q.2.2] 35)) := by
 have hb : Below wx.heap.size wx (wx.alloc (.cells #[.int .i64 q.1.kind, q.2.1, q.2.2] 35)) := bel_new (Below.refl _ _) _
 have hel : ∀ r ∈ ps, KP (fun k => w.heap.size < k ∧ k ≠ wx.heap.size) (wx.alloc (.cells #[.int .i64 q.1.kind, q.2.1, q.2.2] 35)) (fun w' => ReIs w' r.1 r.2.1 r.2.2) := fun r hr =>
  ((h.own.keep r hr).sub (T := fun k => w.heap.size < k ∧ k ≠ wx.heap.size) (fun k hk hS => ⟨hS.1, by omega⟩)).to (.of hb)
 refine ⟨heap_alloc_new wx _, ?_, h.run.trans (M6.makeR_at hj he).symm, hel q (List.mem_of_getElem? hq), hel, ?_, h.len, hgl, hgr, bel_then h.bel hb, bel_get hb h.rb⟩
 · cases ps with
   | nil => simp at hq
   | cons a t => simp at hq; subst hq; rfl
 intro m r hr
 obtain ⟨a, b, c⟩ := hcl m r hr
 exact ⟨(hb.cell hgl).trans a, (hb.cell hgl).trans b, (hb.cell hgl).trans c⟩
theorem six_two {w : World} {k : Int} {p q : RE} {ps pl qs ql : Value} {b : Nat} (hp : ReIs w p ps pl) (hq : ReIs w q qs ql) (hb : w.heap[b]? = some (.cells #[.int .i64 p.kind, ps, pl, .int .i64 q.kind, qs, ql] 35 (0, 0))) :
 ReIs w (.mk k [] [p, q]) (.slice none 0 0) (.slice (some ⟨b, 0, none⟩) 2 2) := by
 refine .mk k [] [p, q] _ _ [(p.kind, ps, pl), (q.kind, qs, ql)] ⟨none, 0, rfl, by decide, by decide, .inl ⟨rfl, fun _ => rfl⟩⟩ ⟨_, 2, rfl, Nat.le_refl _, by show (2 : Nat) ≤ _; decide, .inr ⟨b, 0, rfl, hp_lt hb, ?_⟩⟩ rfl ?_ ?_
 · intro j u hu
   unfold World.cell?
   rw [show (⟨b, 0 + j, none⟩ : Addr).block = b from rfl, hb]
   match j, hu with
   | 0, h => simpa [trip] using h
   | 1, h => simpa [trip] using h
   | 2, h => simpa [trip] using h
   | 3, h => simpa [trip] using h
   | 4, h => simpa [trip] using h
   | 5, h => simpa [trip] using h
   | j + 6, h => simp [trip] at h
 · intro i e p he hp
   match i, he, hp with
   | 0, he, hp => cases he; cases hp; rfl
   | 1, he, hp => cases he; cases hp; rfl
   | i + 2, he, hp => simp at he
 · intro i e p' he hp'
   match i, he, hp' with
   | 0, he, hp' => cases he; cases hp'; exact hp
   | 1, he, hp' => cases he; cases hp'; exact hq
   | i + 2, he, hp' => simp at he
theorem six_one {w : World} {k : Int} {p : RE} {ps pl : Value} {b : Nat} (hp : ReIs w p ps pl) (hb : w.heap[b]? = some (.cells #[.int .i64 p.kind, ps, pl] 35 (0, 0))) :
 ReIs w (.mk k [] [p]) (.slice none 0 0) (.slice (some ⟨b, 0, none⟩) 1 1) := by
 refine .mk k [] [p] _ _ [(p.kind, ps, pl)] ⟨none, 0, rfl, by decide, by decide, .inl ⟨rfl, fun _ => rfl⟩⟩ ⟨_, 1, rfl, Nat.le_refl _, by show (1 : Nat) ≤ _; decide, .inr ⟨b, 0, rfl, hp_lt hb, ?_⟩⟩ rfl ?_ ?_
 · intro j u hu
   unfold World.cell?
   rw [show (⟨b, 0 + j, none⟩ : Addr).block = b from rfl, hb]
   match j, hu with
   | 0, h => simpa [trip] using h
   | 1, h => simpa [trip] using h
   | 2, h => simpa [trip] using h
   | j + 3, h => simp [trip] at h
 · intro i e p he hp
   match i, he, hp with
   | 0, he, hp => cases he; cases hp; rfl
   | i + 1, he, hp => simp at he
 · intro i e p' he hp'
   match i, he, hp' with
   | 0, he, hp' => cases he; cases hp'; exact hp
   | i + 1, he, hp' => simp at he
theorem six_nil {w : World} {k : Int} : ReIs w (.mk k [] []) (.slice none 0 0) (.slice none 0 0) := by
 refine .mk k [] [] _ _ [] ⟨none, 0, rfl, by decide, by decide, .inl ⟨rfl, fun _ => rfl⟩⟩ ⟨none, 0, rfl, by decide, by decide, .inl ⟨rfl, fun _ => rfl⟩⟩ rfl ?_ ?_
 · intro i e p he; simp at he
 · intro i e p he; simp at he
theorem six_leaf {w : World} {a b : Int} {q : Nat} (hq : w.heap[q]? = some (.cells #[.int .i32 a, .int .i32 b] 79 (0, 0))) : ReIs w (.mk 2 [(a, b)] []) (.slice (some ⟨q, 0, none⟩) 1 1) (.slice none 0 0) := by
 refine .mk 2 [(a, b)] [] _ _ [] ⟨_, 1, rfl, Nat.le_refl _, by show (1 : Nat) ≤ _; decide, .inr ⟨q, 0, rfl, hp_lt hq, fun j u hu => ?_⟩⟩ ⟨none, 0, rfl, by decide, by decide, .inl ⟨rfl, fun _ => rfl⟩⟩ rfl ?_ ?_
 · unfold World.cell?
   rw [show (⟨q, 0 + j, none⟩ : Addr).block = q from rfl, hq]
   match j, hu with
   | 0, h => simpa [flatK] using h
   | 1, h => simpa [flatK] using h
   | j + 2, h => simp [flatK] at h
 · intro i e p he; simp at he
 · intro i e p he; simp at he
theorem set_three {w : World} {p : Nat} {x0 x1 x2 : Value} {t : TypeId} (a b c : Value) (h : w.heap[p]? = some (.cells #[x0, x1, x2] t (0, 0))) :
 (((w.setCell ⟨p, 0, none⟩ a).setCell ⟨p, 1, none⟩ b).setCell ⟨p, 2, none⟩ c).heap[p]? = some (.cells #[a, b, c] t (0, 0)) := by
 simp [World.setCell, Array.getElem?_modify, h]
theorem F6.next {l : List Int} {w wx W' : World} {n g pb i : Nat} {ps : List Rt} {p : RE} {sv lv : Value} {q : Rt} (h : F6 l w n g pb ps i p sv lv wx) (hi : 1 ≤ i) (hq : ps[i]? = some q)
 (hW : W' = (((wx.alloc (.cells #[.int .i64 p.kind, sv, lv, .int .i64 q.1.kind, q.2.1, q.2.2] 35)).setCell ⟨pb, 0, none⟩ (.int .i64 3)).setCell ⟨pb, 1, none⟩ (.slice none 0 0)).setCell ⟨pb, 2, none⟩ (.slice (some ⟨wx.heap.size, 0, none⟩) 2 2)) :
 F6 l w n g pb ps (i + 1) (.mk 3 [] [p, q.1]) (.slice none 0 0) (.slice (some ⟨wx.heap.size, 0, none⟩) 2 2) W' := by
 have hpl := hp_lt h.hp
 have hrl := hp_lt h.rb
 have hgp := h.gp
 have hgr := h.gr
 have hb : Below wx.heap.size wx (wx.alloc (.cells #[.int .i64 p.kind, sv, lv, .int .i64 q.1.kind, q.2.1, q.2.2] 35)) := bel_new (Below.refl _ _) _
 have hag : Ag (fun k => w.heap.size < k ∧ k ≠ pb) (wx.alloc (.cells #[.int .i64 p.kind, sv, lv, .int .i64 q.1.kind, q.2.1, q.2.2] 35)) W' := by
  rw [hW]
  exact ((((Ag.refl _ _).setCell (fun h => h.2 rfl) _).setCell (fun h => h.2 rfl) _).setCell (fun h => h.2 rfl) _)
 have hoth : ∀ k, k ≠ pb → W'.heap[k]? = (wx.alloc (.cells #[.int .i64 p.kind, sv, lv, .int .i64 q.1.kind, q.2.1, q.2.2] 35)).heap[k]? := fun k hk => by
  rw [hW, Below.heap_setCell _ _ _ _ (by simpa using hk), Below.heap_setCell _ _ _ _ (by simpa using hk), Below.heap_setCell _ _ _ _ (by simpa using hk)]
 have hp1 := bel_get hb h.hp
 refine ⟨?_, ?_, h.run, ?_, fun r hr => ((h.el r hr).to (.of hb)).to hag, ?_, h.len, hgp, hgr, ?_, ?_⟩
 · rw [hW]
   exact set_three (.int .i64 3) (.slice none 0 0) (.slice (some ⟨wx.heap.size, 0, none⟩) 2 2) hp1
 · have e : (ps.map (·.1)).take (i + 1) = (ps.map (·.1)).take i ++ [q.1] := by
    rw [List.take_add_one]
    simp [hq]
   rw [e, M6.foldR_snoc _ _ (by
    have hil : i < ps.length := (List.getElem?_eq_some_iff.1 hq).1
    simp; omega), ← h.fld]
 · refine KP.to ?_ hag
   exact afkp_and (afkp_and (h.kp.to (.of hb)) ((h.el q (List.mem_of_getElem? hq)).to (.of hb)) (fun w' h1 h2 => And.intro h1 h2)) (KP.block (heap_alloc_new wx _) ⟨by omega, by omega⟩) (fun w' h1 h2 => six_two h1.1 h1.2 h2)
 · intro m r hr
   obtain ⟨a, b, c⟩ := h.cells m r hr
   have e : ∀ x, W'.cell? ⟨g, x, none⟩ = wx.cell? ⟨g, x, none⟩ := fun x => by
    refine Eq.trans ?_ (hb.cell (p := ⟨g, x, none⟩) (show g < wx.heap.size by omega))
    unfold World.cell?
    rw [hoth g (by omega)]
   rw [e, e, e]
   exact ⟨a, b, c⟩
 · rw [hW]
   have hp2 : w.heap.size ≤ pb := by omega
   exact ((((bel_then h.bel hb)).setCell hp2 _).setCell hp2 _).setCell hp2 _
 · rw [hoth _ (by omega)]; exact bel_get hb h.rb
end Go.Proofs.YtfkmajjgkdjncaaGreatDoor

set_option maxHeartbeats 20000000
set_option maxRecDepth 100000
namespace Go.Proofs.YtfkmajjgkdjncaaGreatDoor
open Go.RowKit Ru
theorem cells3m_of {w : World} {p : Nat} {a b c : Value} {t : TypeId} (h : w.heap[p]? = some (.cells #[a, b, c] t (0, 0))) : (w.cell? ⟨p, 0, none⟩ = some a ∧ w.cell? ⟨p, 1, none⟩ = some b ∧ w.cell? ⟨p, 2, none⟩ = some c) ∧ w.frozen? ⟨p, 0, none⟩ = false ∧ w.frozen? ⟨p, 1, none⟩ = false ∧ w.frozen? ⟨p, 2, none⟩ = false := by
 simp [World.cell?, World.frozen?, h]
theorem set3_alloc {w : World} {o : Obj} {g i j k : Nat} {a b c : Value} (hg : g < w.heap.size) : (((w.alloc o).setCell ⟨g, i, none⟩ a).setCell ⟨g, j, none⟩ b).setCell ⟨g, k, none⟩ c =
 (((w.setCell ⟨g, i, none⟩ a).setCell ⟨g, j, none⟩ b).setCell ⟨g, k, none⟩ c).alloc o := by
 rw [World.setCell_alloc_past _ _ _ _ hg, World.setCell_alloc_past _ _ _ _ (by simpa [World.setCell] using hg), World.setCell_alloc_past _ _ _ _ (by simpa [World.setCell] using hg)]
def M6Post (l : List Int) (w : World) (e : Ending) (w' : World) : Prop :=
 ∃ sv ev, e = .returned (.agg #[.int .i64 (M6.makeR l).kind, sv, ev]) ∧ KP (fun k => w.heap.size ≤ k) w' (fun w2 => ReIs w2 (M6.makeR l) sv ev) ∧ Below w.heap.size w w'
theorem m6_end {l : List Int} {w w5 : World} {e : RE} {sv lv x0 x1 x2 : Value} (hr : w5.heap[w.heap.size]? = some (.cells #[x0, x1, x2] 35 (0, 0))) (hb : Below w.heap.size w w5) (hk : KP (fun k => w.heap.size < k) w5 (fun w2 => ReIs w2 e sv lv)) (he : M6.makeR l = e) :
 ∃ W9, W9 = ((w5.setCell ⟨w.heap.size, 0, none⟩ (.int .i64 e.kind)).setCell ⟨w.heap.size, 1, none⟩ sv).setCell ⟨w.heap.size, 2, none⟩ lv ∧
  ((W9.cell? ⟨w.heap.size, 0, none⟩ = some (.int .i64 e.kind) ∧ W9.cell? ⟨w.heap.size, 1, none⟩ = some sv ∧ W9.cell? ⟨w.heap.size, 2, none⟩ = some lv) ∧ W9.frozen? ⟨w.heap.size, 0, none⟩ = false ∧ W9.frozen? ⟨w.heap.size, 1, none⟩ = false ∧ W9.frozen? ⟨w.heap.size, 2, none⟩ = false) ∧
  M6Post l w (.returned (.agg #[.int .i64 e.kind, sv, lv])) W9 := by
 refine ⟨_, rfl, cells3m_of (t := 35) (set_three _ _ _ hr), sv, lv, by rw [he], ?_, ((hb.setCell (Nat.le_refl _) _).setCell (Nat.le_refl _) _).setCell (Nat.le_refl _) _⟩
 rw [he]
 have n0 : ¬ (w.heap.size < w.heap.size) := Nat.lt_irrefl _
 have h1 : Ag (fun k => w.heap.size < k) w5 (((w5.setCell ⟨w.heap.size, 0, none⟩ (.int .i64 e.kind)).setCell ⟨w.heap.size, 1, none⟩ sv).setCell ⟨w.heap.size, 2, none⟩ lv) := (((Ag.refl (fun k => w.heap.size < k) w5).setCell (p := ⟨w.heap.size, 0, none⟩) n0 _).setCell (p := ⟨w.heap.size, 1, none⟩) n0 _).setCell (p := ⟨w.heap.size, 2, none⟩) n0 _
 exact (hk.to h1).sub (fun k _ hk => Nat.le_of_lt hk)
theorem make6_any (l : List Int) (ol : Option Addr) (cl : Nat) (w : World) (hl : Row w (.slice ol l.length cl) l.length (l.map (Value.int .i64))) :
 Calls Tryz.prog 12 #[.slice ol l.length cl] w (M6Post l w) := by
 obtain ⟨ip, hp0, hp1, hp2, hp3⟩ := infoReM
 have HROWL := Lib.hid hl
 clear hl
 go_enter Tryz.func12, Tryz.ntmps12
 go_wp2_with fail
 go_loopg [3, 4] 14 (fun g s3 s4 wx => ∃ (j : Nat) (o : Option Addr) (n c : Nat) (ps : List Rt), j + g = 14 ∧ s4 = .int .i64 (j : Int) ∧ s3 = .slice o n c ∧ K6 l w j o n c ps wx)
 case atStart => exact ⟨0, none, 0, 0, [], rfl, rfl, rfl, K6.start l w⟩
 case round =>
  obtain ⟨j, o, n, c, ps, hjg, rfl, rfl, hS⟩ := hrel
  have HS := Lib.hid hS
  have hn14 : n ≤ 14 := by have := hS.len14; omega
  clear hS
  by_cases hj : (j < l.length ∧ j < 14)
  · obtain ⟨k, hk⟩ : ∃ k, k = l.getD j 0 := ⟨_, rfl⟩
    obtain ⟨v, hv, ev⟩ := afu64_mod' k 9 (by omega) (by omega)
    have ev1 : (IntKind.u64.wrap k).tmod 9 = (v : Int) := ev
    have ev2 : IntKind.i64.wrap (v : Int) = (v : Int) := IntWalk.i64_in _ (by omega)
    have HKE := Lib.hid hk
    have hd1 : decide ((j : Int) < (l.length : Int)) = true := by simp; omega
    have hd2 : decide ((j : Int) < 14) = true := by simp; omega
    obtain ⟨b, off, rfl, hk0⟩ : ∃ b off, ol = some ⟨b, off, none⟩ ∧ wr.cell? ⟨b, off + j, none⟩ = some (.int .i64 k) := by
     obtain ⟨o', cap', e, hc, hm, hr⟩ := HROWL.out.below HS.out.bel
     cases e
     rcases hr with ⟨h0, -⟩ | ⟨b, off, rfl, hlt, hcell⟩
     · omega
     · exact ⟨b, off, rfl, hcell j _ (by rw [hk]; exact getElem?_ints hj.1)⟩
    have hj14 := hj.2
    have hjl : (j : Int) < (l.length : Int) := by omega
    have HROW := Lib.hid (show wr.ownsRow (w.heap.size + 1) 35 3 (.slice o n c) n (ps.flatMap thr) from by have := HS.out.own.row; rw [HS.out.len] at this; exact this)
    have HLT := Lib.hid HS.out.lt
    cases gk with
    | zero => omega
    | succ g =>
    clear hk ev hj
    by_cases h4 : v < 4
    · skip
      obtain ⟨a, ha⟩ : ∃ a, bits BinOp.and IntKind.i64 k 1 = a := ⟨_, rfl⟩
      obtain ⟨bb, hb⟩ : ∃ a, bits BinOp.and IntKind.i64 (v : Int) 1 = a := ⟨_, rfl⟩
      have ba := M6.wrap_bit k
      have bb2 := M6.wrap_bit (v : Int)
      rw [ha] at ba
      rw [hb] at bb2
      obtain ⟨a0, a1⟩ := ba
      obtain ⟨b0, b1⟩ := bb2
      have d1 : decide ((v : Int) < 4) = true := by simp; omega
      have HC := Lib.hid h4
      clear h4
      have HAB := Lib.hid (And.intro ha hb)
      go_wp2_with (at_builtin; refine wpList_append_far _ rfl _ _ 33 rfl (w.heap.size + 1) 35 ip _ 3 56 Tryz.underlying33 hp0 hp1 hp2 hp3 rfl (by decide) (.slice o n c) n (ps.flatMap thr) rfl (by repeat (first | exact HROW.out | refine World.ownsRow.alloc ?_ _ | refine owns_drew ?_)) _ 1 _ rfl (by exact afrow_new rfl (by simp)) rfl (by simp [Value.oneCell']) (by unfold maxLen; omega) (by omega) (by have := HLT.out; simp; omega) ?_; intro v9 w9 hown9 hg9 hf9 hb9; obtain ⟨o9, c9, rfl⟩ := owns_slice hown9)
      obtain ⟨ps5, hS5⟩ := HS.out.push (p := M6.leafR a bb) (sv := .slice (some ⟨wr.heap.size, 0, none⟩) 1 1) (lv := .slice none 0 0) (by repeat (first | exact Below.refl _ _ | refine Below.drew ?_ | refine bel_new ?_ _)) hown9 rfl hg9 hf9 ((KP.block (b := wr.heap.size) (bel_get (w := wr.alloc _) (by repeat (first | exact Below.refl _ _ | refine Below.drew ?_ | refine bel_new ?_ _)) (heap_alloc_new wr _)) ⟨HLT.out, fun e => absurd (HS.out.own.row.lt _ e).2 (Nat.lt_irrefl _)⟩).mono (fun w' h => six_leaf h)) (HS.out.leaf hjl HKE.out ev1 (.inl HC.out) HAB.out.1 HAB.out.2)
      have HS5 := Lib.hid hS5
      clear hS5 hown9 hg9 hf9 hb9
      go_roundg g
      case measure => omega
      case rel => exact ⟨j + 1, o9, n + 1, c9, ps5, by omega, by simp, rfl, HS5.out⟩
    rcases Nat.eq_zero_or_pos n with rfl | hn0
    · skip
      obtain ⟨a, ha⟩ : ∃ a, bits BinOp.and IntKind.i64 k 1 = a := ⟨_, rfl⟩
      obtain ⟨bb, hb⟩ : ∃ a, bits BinOp.and IntKind.i64 (v : Int) 1 = a := ⟨_, rfl⟩
      have ba := M6.wrap_bit k
      have bb2 := M6.wrap_bit (v : Int)
      rw [ha] at ba
      rw [hb] at bb2
      obtain ⟨a0, a1⟩ := ba
      obtain ⟨b0, b1⟩ := bb2
      have d1 : decide ((v : Int) < 4) = false := by simp; omega
      clear h4
      have HAB := Lib.hid (And.intro ha hb)
      go_wp2_with (at_builtin; refine wpList_append_far _ rfl _ _ 33 rfl (w.heap.size + 1) 35 ip _ 3 56 Tryz.underlying33 hp0 hp1 hp2 hp3 rfl (by decide) (.slice o 0 c) 0 (ps.flatMap thr) rfl (by repeat (first | exact HROW.out | refine World.ownsRow.alloc ?_ _ | refine owns_drew ?_)) _ 1 _ rfl (by exact afrow_new rfl (by simp)) rfl (by simp [Value.oneCell']) (by unfold maxLen; omega) (by omega) (by have := HLT.out; simp; omega) ?_; intro v9 w9 hown9 hg9 hf9 hb9; obtain ⟨o9, c9, rfl⟩ := owns_slice hown9)
      obtain ⟨ps5, hS5⟩ := HS.out.push (p := M6.leafR a bb) (sv := .slice (some ⟨wr.heap.size, 0, none⟩) 1 1) (lv := .slice none 0 0) (by repeat (first | exact Below.refl _ _ | refine Below.drew ?_ | refine bel_new ?_ _)) hown9 rfl hg9 hf9 ((KP.block (b := wr.heap.size) (bel_get (w := wr.alloc _) (by repeat (first | exact Below.refl _ _ | refine Below.drew ?_ | refine bel_new ?_ _)) (heap_alloc_new wr _)) ⟨HLT.out, fun e => absurd (HS.out.own.row.lt _ e).2 (Nat.lt_irrefl _)⟩).mono (fun w' h => six_leaf h)) (HS.out.leaf hjl HKE.out ev1 (.inr rfl) HAB.out.1 HAB.out.2)
      have HS5 := Lib.hid hS5
      clear hS5 hown9 hg9 hf9 hb9
      go_roundg g
      case measure => omega
      case rel => exact ⟨j + 1, o9, 0 + 1, c9, ps5, by omega, by simp, rfl, HS5.out⟩
    by_cases h44 : v = 4
    · skip
      obtain ⟨m, rfl⟩ : ∃ m, n = m + 1 := ⟨n - 1, by omega⟩
      obtain ⟨ps', q, rfl⟩ : ∃ ps' q, ps = ps' ++ [q] := aflast_of (by have := HS.out.len; omega)
      obtain ⟨g5, rfl, hg1, hg2, hnc, hfz, hcl⟩ := HS.out.own_cells (by omega)
      obtain ⟨x0, x1, x2⟩ := hcl m q (by have h9 := HS.out.len; simp at h9; subst h9; simp)
      have z0 := hfz (m * 3)
      have z1 := hfz (m * 3 + 1)
      have z2 := hfz (m * 3 + 2)
      have hm0 : (0 : Int) ≤ (m : Int) := by omega
      have hm1 : (m : Int) < (m : Int) + 1 := by omega
      have n0 : ¬ g5 = wr.heap.size := by omega
      clear hcl hfz
      subst h44
      have e0 : ((m : Int) + 1 == 0) = false := by simp; omega
      have w1 : IntKind.i64.wrap (m : Int) = (m : Int) := IntWalk.i64_in _ (by omega)
      clear h4
      go_wp2_with fail
      obtain ⟨w5, hw5⟩ : ∃ w5, w5 = (((wr.setCell ⟨g5, m * 3, none⟩ (.int .i64 5)).setCell ⟨g5, m * 3 + 1, none⟩ (.slice none 0 0)).setCell ⟨g5, m * 3 + 2, none⟩ (.slice (some ⟨wr.heap.size, 0, none⟩) 1 1)).alloc (.cells #[.int .i64 q.1.kind, q.2.1, q.2.2] 35) := ⟨_, rfl⟩
      rw [← hw5]
      have hbX : Below wr.heap.size wr (wr.alloc (.cells #[.int .i64 q.1.kind, q.2.1, q.2.2] 35)) := bel_new (Below.refl _ _) _
      have hS5 := HS.out.over hbX (hw5.trans (set3_alloc hg2).symm) (p := .mk 5 [] [q.1]) (sv := .slice none 0 0) (lv := .slice (some ⟨wr.heap.size, 0, none⟩) 1 1)
       (afkp_and ((HS.out.own.keep q (by simp)).to (.of hbX)) (KP.block (heap_alloc_new wr _) ⟨HLT.out, fun e => by simp [Value.ownBlock] at e; omega⟩) (fun w' h1 h2 => six_one h1 h2)) (HS.out.star hjl HKE.out ev1 rfl)
      have HS5 := Lib.hid hS5
      clear hS5 hw5 hbX
      go_roundg g
      case measure => omega
      case rel => exact ⟨j + 1, _, m + 1, c, _, by omega, by simp, rfl, HS5.out⟩
    by_cases h1 : n = 1
    · by_cases h8 : v = 8
      · skip
        subst h8
        have HC := Lib.hid h1
        subst h1
        clear h4 h44
        go_wp2_with (at_builtin; refine wpList_append_far _ rfl _ _ 33 rfl (w.heap.size + 1) 35 ip _ 3 56 Tryz.underlying33 hp0 hp1 hp2 hp3 rfl (by decide) (.slice o 1 c) 1 (ps.flatMap thr) rfl (by repeat (first | exact HROW.out | refine World.ownsRow.alloc ?_ _ | refine owns_drew ?_)) _ 1 _ rfl (by exact afrow_new rfl (by simp)) rfl (by simp [Value.oneCell']) (by unfold maxLen; omega) (by omega) (by have := HLT.out; simp; omega) ?_; intro v9 w9 hown9 hg9 hf9 hb9; obtain ⟨o9, c9, rfl⟩ := owns_slice hown9)
        obtain ⟨ps5, hS5⟩ := HS.out.push (p := .mk 1 [] []) (sv := .slice none 0 0) (lv := .slice none 0 0) (by repeat (first | exact Below.refl _ _ | refine Below.drew ?_ | refine bel_new ?_ _)) hown9 rfl hg9 hf9 (fun w' _ => six_nil) (HS.out.empty hjl HKE.out ev1 rfl rfl)
        have HS5 := Lib.hid hS5
        clear hS5 hown9 hg9 hf9 hb9
        go_roundg g
        case measure => omega
        case rel => exact ⟨j + 1, o9, 1 + 1, c9, ps5, by omega, by simp, rfl, HS5.out⟩
      · skip
        have d1 : decide ((v : Int) < 4) = false := by simp; omega
        have d2 : ((v : Int) == 4) = false := by simp; omega
        have d3 : ((v : Int) == 8) = false := by simp; omega
        have HC := Lib.hid (show 4 < v ∧ v ≠ 8 by omega)
        subst h1
        clear h4 h44 h8
        have HS5 := Lib.hid (HS.out.same (HS.out.idle hjl HKE.out ev1 HC.out.1 HC.out.2 rfl))
        go_wp2_with fail
        go_roundg g
        case measure => omega
        case rel => exact ⟨j + 1, o, 1, c, ps, by omega, by simp, rfl, HS5.out⟩
    by_cases h7 : v < 7
    · skip
      obtain ⟨m, rfl⟩ : ∃ m, n = m + 2 := ⟨n - 2, by omega⟩
      obtain ⟨ps1, r, rfl⟩ : ∃ ps1 r, ps = ps1 ++ [r] := aflast_of (by have := HS.out.len; omega)
      obtain ⟨ps', q, rfl⟩ : ∃ ps' q, ps1 = ps' ++ [q] := aflast_of (by have := HS.out.len; simp at this; omega)
      have HQ2 := Lib.hid (show K6 l w j o (m + 2) c (ps' ++ [q, r]) wr by have := HS.out; simpa using this)
      clear HS
      obtain ⟨g5, rfl, hg1, hg2, hnc, hfz, hcl⟩ := HQ2.out.own_cells (by omega)
      have hpm : ps'.length = m := by have := HQ2.out.len; simp at this; omega
      obtain ⟨x0, x1, x2⟩ := hcl m q (by subst hpm; simp)
      obtain ⟨y0, y1, y2⟩ := hcl (m + 1) r (by subst hpm; simp)
      have HXC := Lib.hid (show ∀ w', Below wr.heap.size wr w' → ∀ i u, (ps'.flatMap thr)[i]? = some u → w'.cell? ⟨g5, 0 + i, none⟩ = some u by
       intro w' hb i u hi
       have hr := HQ2.out.own.row
       have h9 := hr.cells (g := g5) rfl i u (by rw [List.flatMap_append, List.getElem?_append_left (List.getElem?_eq_some_iff.1 hi).1]; exact hi)
       have hadd : ((⟨g5, 0, none⟩ : Addr).add i) = ⟨g5, 0 + i, none⟩ := by unfold Addr.add; by_cases e : i = 0 <;> simp [e]
       rw [hadd] at h9
       rw [hb.cell hg2]; exact h9)
      have HPM := Lib.hid (And.intro hpm (thr_len ps'))
      have hm0 : (0 : Int) ≤ (m : Int) := by omega
      have hm2 : (0 : Int) ≤ (m : Int) + 1 := by omega
      have hm3 : (m : Int) < (m : Int) + 2 := by omega
      have hm4 : (m : Int) + 1 < (m : Int) + 2 := by omega
      have hmc : (m : Int) ≤ (c : Int) := by omega
      have n0 : ¬ g5 = wr.heap.size := by omega
      have n1 : ¬ g5 = wr.heap.size + 1 := by omega
      clear hcl hfz hpm
      have e0 : ((m : Int) + 2 == 0) = false := by simp; omega
      have e3 : decide ((1 : Int) < (m : Int) + 2) = true := by simp; omega
      have d1 : decide ((v : Int) < 4) = false := by simp; omega
      have d2 : ((v : Int) == 4) = false := by simp; omega
      have d3 : decide ((v : Int) < 7) = true := by simp; omega
      have HC := Lib.hid (show 4 < v ∧ v < 7 by omega)
      clear h4 h44 h7
      go_upto_region 13 with (fail)
      have w1 : IntKind.i64.wrap (m : Int) = (m : Int) := IntWalk.i64_in _ (by omega)
      have w2 : IntKind.i64.wrap ((m : Int) + 1) = (m : Int) + 1 := IntWalk.i64_in _ (by omega)
      have w4 : IntKind.i64.wrap ((m : Int) + 2 - 1) = (m : Int) + 1 := by rw [IntWalk.i64_in _ (by omega)]; omega
      have w5 : IntKind.i64.wrap ((m : Int) + 2 - 2) = (m : Int) := by rw [IntWalk.i64_in _ (by omega)]; omega
      have w3 : ((m : Int) + 1).toNat = m + 1 := by omega
      go_region_held3 (fun w' => w'.cell? ⟨g5, m * 3, none⟩ = some (.int .i64 q.1.kind) ∧ w'.cell? ⟨g5, m * 3 + 1, none⟩ = some q.2.1 ∧ w'.cell? ⟨g5, m * 3 + 2, none⟩ = some q.2.2 ∧ w'.cell? ⟨g5, (m + 1) * 3, none⟩ = some (.int .i64 r.1.kind) ∧ w'.cell? ⟨g5, (m + 1) * 3 + 1, none⟩ = some r.2.1 ∧ w'.cell? ⟨g5, (m + 1) * 3 + 2, none⟩ = some r.2.2)
       (first | trivial | (refine ⟨?_, ?_, ?_, ?_, ?_, ?_⟩ <;> refine (Below.cell (w := wr) (B := wr.heap.size) ?_ hg2).trans (by assumption) <;> repeat (first | exact Below.refl _ _ | exact hB9 | refine Below.drew ?_ | refine bel_new ?_ _)))
       (first | (with_reducible refine afis_append ?_; refine afstep_append_full _ rfl _ _ 33 rfl (w.heap.size + 1) 35 ip _ 3 56 Tryz.underlying33 hp0 hp1 hp2 hp3 rfl (by decide) g5 0 m (ps'.flatMap thr) rfl (by rw [HPM.out.2, HPM.out.1]) (HXC.out _ (by repeat (first | exact Below.refl _ _ | refine Below.drew ?_ | refine bel_new ?_ _))) (wr.heap.size + 1) [.int .i64 3, .slice none 0 0, .slice (some ⟨wr.heap.size, 0, none⟩) 2 2] rfl (afcells_new (by simp)) rfl (by unfold maxLen; omega) (by omega) (by have := HQ2.out.lt; simp; omega) ?_; intro c9 w9 hown9 hb9; have hB9 : Below wr.heap.size wr w9 := bel_then (by repeat (first | exact Below.refl _ _ | refine Below.drew ?_ | refine bel_new ?_ _)) hb9))
      all_goals (
       have hS5 := HQ2.out.both (G9 := wr.heap.size + 1 + 1) (by repeat (first | exact Below.refl _ _ | refine Below.drew ?_ | refine bel_new ?_ _)) (by simp) (afown_at hown9 (by simp)) (p := .mk 3 [] [q.1, r.1]) rfl hb9
        (afkp_and (afkp_and ((HQ2.out.own.keep q (by simp)).to (.of (by repeat (first | exact Below.refl _ _ | refine Below.drew ?_ | refine bel_new ?_ _)))) ((HQ2.out.own.keep r (by simp)).to (.of (by repeat (first | exact Below.refl _ _ | refine Below.drew ?_ | refine bel_new ?_ _)))) (fun w' h1 h2 => And.intro h1 h2)) (KP.block (b := wr.heap.size) (bel_get (w := wr.alloc _) (by repeat (first | exact Below.refl _ _ | refine Below.drew ?_ | refine bel_new ?_ _)) (heap_alloc_new wr _)) ⟨HLT.out, fun e => by simp [Value.ownBlock] at e; omega⟩) (fun w' h1 h2 => six_two h1.1 h1.2 h2))
        (HQ2.out.pair hjl HKE.out ev1 (by first | exact HC.out.1 | decide) (by rw [if_pos HC.out.2]))
       have HS5 := Lib.hid hS5
       clear hS5 hown9 hb9 hB9 w1 w2 w3 w4 w5
       go_wp2
       go_roundg g
       case measure => omega
       case rel => exact ⟨j + 1, some ⟨wr.heap.size + 1 + 1, 0, none⟩, m + 1, c9, _, by omega, by simp, rfl, HS5.out⟩)
    · skip
      obtain ⟨m, rfl⟩ : ∃ m, n = m + 2 := ⟨n - 2, by omega⟩
      obtain ⟨ps1, r, rfl⟩ : ∃ ps1 r, ps = ps1 ++ [r] := aflast_of (by have := HS.out.len; omega)
      obtain ⟨ps', q, rfl⟩ : ∃ ps' q, ps1 = ps' ++ [q] := aflast_of (by have := HS.out.len; simp at this; omega)
      have HQ2 := Lib.hid (show K6 l w j o (m + 2) c (ps' ++ [q, r]) wr by have := HS.out; simpa using this)
      clear HS
      obtain ⟨g5, rfl, hg1, hg2, hnc, hfz, hcl⟩ := HQ2.out.own_cells (by omega)
      have hpm : ps'.length = m := by have := HQ2.out.len; simp at this; omega
      obtain ⟨x0, x1, x2⟩ := hcl m q (by subst hpm; simp)
      obtain ⟨y0, y1, y2⟩ := hcl (m + 1) r (by subst hpm; simp)
      have HXC := Lib.hid (show ∀ w', Below wr.heap.size wr w' → ∀ i u, (ps'.flatMap thr)[i]? = some u → w'.cell? ⟨g5, 0 + i, none⟩ = some u by
       intro w' hb i u hi
       have hr := HQ2.out.own.row
       have h9 := hr.cells (g := g5) rfl i u (by rw [List.flatMap_append, List.getElem?_append_left (List.getElem?_eq_some_iff.1 hi).1]; exact hi)
       have hadd : ((⟨g5, 0, none⟩ : Addr).add i) = ⟨g5, 0 + i, none⟩ := by unfold Addr.add; by_cases e : i = 0 <;> simp [e]
       rw [hadd] at h9
       rw [hb.cell hg2]; exact h9)
      have HPM := Lib.hid (And.intro hpm (thr_len ps'))
      have hm0 : (0 : Int) ≤ (m : Int) := by omega
      have hm2 : (0 : Int) ≤ (m : Int) + 1 := by omega
      have hm3 : (m : Int) < (m : Int) + 2 := by omega
      have hm4 : (m : Int) + 1 < (m : Int) + 2 := by omega
      have hmc : (m : Int) ≤ (c : Int) := by omega
      have n0 : ¬ g5 = wr.heap.size := by omega
      have n1 : ¬ g5 = wr.heap.size + 1 := by omega
      clear hcl hfz hpm
      have e0 : ((m : Int) + 2 == 0) = false := by simp; omega
      have e3 : decide ((1 : Int) < (m : Int) + 2) = true := by simp; omega
      have d1 : decide ((v : Int) < 4) = false := by simp; omega
      have d2 : ((v : Int) == 4) = false := by simp; omega
      have d3 : decide ((v : Int) < 7) = false := by simp; omega
      have HC := Lib.hid (show 4 < v ∧ ¬ v < 7 by omega)
      clear h4 h44 h7
      go_upto_region 15 with (fail)
      have w1 : IntKind.i64.wrap (m : Int) = (m : Int) := IntWalk.i64_in _ (by omega)
      have w2 : IntKind.i64.wrap ((m : Int) + 1) = (m : Int) + 1 := IntWalk.i64_in _ (by omega)
      have w4 : IntKind.i64.wrap ((m : Int) + 2 - 1) = (m : Int) + 1 := by rw [IntWalk.i64_in _ (by omega)]; omega
      have w5 : IntKind.i64.wrap ((m : Int) + 2 - 2) = (m : Int) := by rw [IntWalk.i64_in _ (by omega)]; omega
      have w3 : ((m : Int) + 1).toNat = m + 1 := by omega
      go_region_held3 (fun w' => w'.cell? ⟨g5, m * 3, none⟩ = some (.int .i64 q.1.kind) ∧ w'.cell? ⟨g5, m * 3 + 1, none⟩ = some q.2.1 ∧ w'.cell? ⟨g5, m * 3 + 2, none⟩ = some q.2.2 ∧ w'.cell? ⟨g5, (m + 1) * 3, none⟩ = some (.int .i64 r.1.kind) ∧ w'.cell? ⟨g5, (m + 1) * 3 + 1, none⟩ = some r.2.1 ∧ w'.cell? ⟨g5, (m + 1) * 3 + 2, none⟩ = some r.2.2)
       (first | trivial | (refine ⟨?_, ?_, ?_, ?_, ?_, ?_⟩ <;> refine (Below.cell (w := wr) (B := wr.heap.size) ?_ hg2).trans (by assumption) <;> repeat (first | exact Below.refl _ _ | exact hB9 | refine Below.drew ?_ | refine bel_new ?_ _)))
       (first | (with_reducible refine afis_append ?_; refine afstep_append_full _ rfl _ _ 33 rfl (w.heap.size + 1) 35 ip _ 3 56 Tryz.underlying33 hp0 hp1 hp2 hp3 rfl (by decide) g5 0 m (ps'.flatMap thr) rfl (by rw [HPM.out.2, HPM.out.1]) (HXC.out _ (by repeat (first | exact Below.refl _ _ | refine Below.drew ?_ | refine bel_new ?_ _))) (wr.heap.size + 1) [.int .i64 4, .slice none 0 0, .slice (some ⟨wr.heap.size, 0, none⟩) 2 2] rfl (afcells_new (by simp)) rfl (by unfold maxLen; omega) (by omega) (by have := HQ2.out.lt; simp; omega) ?_; intro c9 w9 hown9 hb9; have hB9 : Below wr.heap.size wr w9 := bel_then (by repeat (first | exact Below.refl _ _ | refine Below.drew ?_ | refine bel_new ?_ _)) hb9))
      all_goals (
       have hS5 := HQ2.out.both (G9 := wr.heap.size + 1 + 1) (by repeat (first | exact Below.refl _ _ | refine Below.drew ?_ | refine bel_new ?_ _)) (by simp) (afown_at hown9 (by simp)) (p := .mk 4 [] [q.1, r.1]) rfl hb9
        (afkp_and (afkp_and ((HQ2.out.own.keep q (by simp)).to (.of (by repeat (first | exact Below.refl _ _ | refine Below.drew ?_ | refine bel_new ?_ _)))) ((HQ2.out.own.keep r (by simp)).to (.of (by repeat (first | exact Below.refl _ _ | refine Below.drew ?_ | refine bel_new ?_ _)))) (fun w' h1 h2 => And.intro h1 h2)) (KP.block (b := wr.heap.size) (bel_get (w := wr.alloc _) (by repeat (first | exact Below.refl _ _ | refine Below.drew ?_ | refine bel_new ?_ _)) (heap_alloc_new wr _)) ⟨HLT.out, fun e => by simp [Value.ownBlock] at e; omega⟩) (fun w' h1 h2 => six_two h1.1 h1.2 h2))
        (HQ2.out.pair hjl HKE.out ev1 (by first | exact HC.out.1 | decide) (by rw [if_neg HC.out.2]))
       have HS5 := Lib.hid hS5
       clear hS5 hown9 hb9 hB9 w1 w2 w3 w4 w5
       go_wp2
       go_roundg g
       case measure => omega
       case rel => exact ⟨j + 1, some ⟨wr.heap.size + 1 + 1, 0, none⟩, m + 1, c9, _, by omega, by simp, rfl, HS5.out⟩)
  · skip
    have hd : (¬ j < l.length) ∨ (j < l.length ∧ j = 14) := by omega
    have hjn : j ≤ 14 := by omega
    have hje : l.length ≤ j ∨ j = 14 := by omega
    have hrb := HS.out.rb
    obtain ⟨⟨r00, r01, r02⟩, r10, r11, r12⟩ := cells3m_of hrb
    have HRB := Lib.hid hrb
    have HLT := Lib.hid HS.out.lt
    have HJE := Lib.hid (And.intro hjn hje)
    clear hj hrb hje
    have hbr : ∃ b1 : Bool, decide ((j : Int) < (l.length : Int)) = b1 ∧ decide (j < l.length) = b1 ∧ (b1 = true → decide ((j : Int) < 14) = false ∧ decide (j < 14) = false) := by
     rcases hd with h | ⟨h, h2⟩
     · exact ⟨false, by simp; omega, by simpa using h, fun h => by cases h⟩
     · exact ⟨true, by simp; omega, by simpa using h, fun _ => ⟨by simp; omega, by simp; omega⟩⟩
    obtain ⟨b1, hb1, hb2, hb3⟩ := hbr
    clear hd
    rcases Nat.eq_zero_or_pos n with rfl | hn0
    · have HE : Hid (M6.makeR l = M6.oneR 97) := Lib.hid (by
       have h1 := HS.out.run
       have h2 : ps = [] := List.eq_nil_of_length_eq_zero HS.out.len
       rw [h2] at h1
       unfold M6.makeR
       rw [M6.makeR_at HJE.out.1 HJE.out.2, ← h1]
       rfl)
      have HBEL := Lib.hid HS.out.bel
      cases b1 with
      | true =>
       obtain ⟨t1, t2⟩ := hb3 rfl
       clear hb3
       go_wp2_with fail
       refine (one_exact 97 wr).mono ?_
       rintro x w6 ⟨rfl, hw6⟩
       have hb6 : Below wr.heap.size wr w6 := by rw [hw6]; exact bel_new (bel_new (Below.refl _ _) _) _
       have hq6 : w6.heap[wr.heap.size + 1]? = some (.cells #[.int .i32 97, .int .i32 97] 79 (0, 0)) := by
        rw [hw6]
        have h := heap_alloc_new (wr.alloc (.cells #[.int .i64 2, .slice (some ⟨wr.heap.size + 1, 0, none⟩) 1 1, .slice none 0 0] 35)) (.cells #[.int .i32 97, .int .i32 97] 79)
        simpa using h
       clear hw6
       have hrb6 := bel_get hb6 (HRB.out)
       obtain ⟨⟨a0, a1, a2⟩, b0, b1, b2⟩ := cells3m_of hrb6
       have HE6 := Lib.hid (m6_end (l := l) (e := .mk 2 [(97, 97)] []) (sv := .slice (some ⟨wr.heap.size + 1, 0, none⟩) 1 1) (lv := .slice none 0 0) hrb6 (bel_then (HBEL.out) hb6) ((KP.block hq6 (by have := HLT.out; omega)).mono (fun w' h => six_leaf h)) (HE.out))
       clear hq6 hrb6 hb6
       go_wp2_with fail
       obtain ⟨W9, hW, ⟨⟨e0, e1, e2⟩, m0, m1, m2⟩, hpost⟩ := HE6.out
       have HW := Lib.hid hW
       clear hW HE6
       rw [show (.int .i64 2 : Value) = .int .i64 (RE.mk 2 [(97, 97)] []).kind from rfl, ← HW.out]
       refine bodyPost_ret (v := .agg #[.int .i64 2, .slice (some ⟨wr.heap.size + 1, 0, none⟩) 1 1, .slice none 0 0]) (by simp [results, Tryz.results12, go_sem, e0, e1, e2, m0, m1, m2, RE.kind]) rfl hpost
      | false =>
       clear hb3
       go_wp2_with fail
       refine (one_exact 97 wr).mono ?_
       rintro x w6 ⟨rfl, hw6⟩
       have hb6 : Below wr.heap.size wr w6 := by rw [hw6]; exact bel_new (bel_new (Below.refl _ _) _) _
       have hq6 : w6.heap[wr.heap.size + 1]? = some (.cells #[.int .i32 97, .int .i32 97] 79 (0, 0)) := by
        rw [hw6]
        have h := heap_alloc_new (wr.alloc (.cells #[.int .i64 2, .slice (some ⟨wr.heap.size + 1, 0, none⟩) 1 1, .slice none 0 0] 35)) (.cells #[.int .i32 97, .int .i32 97] 79)
        simpa using h
       clear hw6
       have hrb6 := bel_get hb6 (HRB.out)
       obtain ⟨⟨a0, a1, a2⟩, b0, b1, b2⟩ := cells3m_of hrb6
       have HE6 := Lib.hid (m6_end (l := l) (e := .mk 2 [(97, 97)] []) (sv := .slice (some ⟨wr.heap.size + 1, 0, none⟩) 1 1) (lv := .slice none 0 0) hrb6 (bel_then (HBEL.out) hb6) ((KP.block hq6 (by have := HLT.out; omega)).mono (fun w' h => six_leaf h)) (HE.out))
       clear hq6 hrb6 hb6
       go_wp2_with fail
       obtain ⟨W9, hW, ⟨⟨e0, e1, e2⟩, m0, m1, m2⟩, hpost⟩ := HE6.out
       have HW := Lib.hid hW
       clear hW HE6
       rw [show (.int .i64 2 : Value) = .int .i64 (RE.mk 2 [(97, 97)] []).kind from rfl, ← HW.out]
       refine bodyPost_ret (v := .agg #[.int .i64 2, .slice (some ⟨wr.heap.size + 1, 0, none⟩) 1 1, .slice none 0 0]) (by simp [results, Tryz.results12, go_sem, e0, e1, e2, m0, m1, m2, RE.kind]) rfl hpost
    · obtain ⟨g5, rfl, hg1, hg2, hnc, hfz, hcl⟩ := HS.out.own_cells hn0
      obtain ⟨⟨qp, qs, ql⟩, hq⟩ : ∃ q, ps[0]? = some q := ⟨ps[0]'(by have := HS.out.len; omega), by simp⟩
      obtain ⟨⟨o1, c1, e1⟩, ⟨o2, c2, e2⟩⟩ := (HS.out.own.keep _ (List.mem_of_getElem? hq)).here.form
      dsimp only at e1 e2
      subst e1 e2
      obtain ⟨x0, x1, x2⟩ := hcl 0 _ hq
      simp only [Nat.zero_mul, Nat.zero_add] at x0 x1 x2
      have hF := F6.start HS.out HJE.out.1 HJE.out.2 hq hg1 hg2 hcl
      have e0 : ((n : Int) == 0) = false := by simp; omega
      have hn1 : (0 : Int) < (n : Int) := by omega
      have HF := Lib.hid hF
      clear hF hfz hcl hq
      cases b1 with
      | true =>
       obtain ⟨t1, t2⟩ := hb3 rfl
       clear hb3
       go_wp2_with fail
       obtain ⟨pb, hpb⟩ : ∃ pb, pb = wr.heap.size := ⟨_, rfl⟩
       rw [← hpb] at HF ⊢
       have hpbr : w.heap.size < pb := by omega
       clear hpb x0 x1 x2 r00 r01 r02 r10 r11 r12 hg1 hg2
       go_loopg [9] (n - 1) (fun g s9 wx => ∃ (i : Nat) (p : RE) (sv lv : Value), i + g = n ∧ 1 ≤ i ∧ s9 = .int .i64 (i : Int) ∧ F6 l w n g5 pb ps i p sv lv wx)
       case atStart => exact ⟨1, _, _, _, by omega, by omega, rfl, HF.out⟩
       case round =>
        obtain ⟨i, p, sv, lv, hig, hi1, rfl, hK⟩ := hrel
        obtain ⟨⟨o4, c4, rfl⟩, ⟨o5, c5, rfl⟩⟩ := hK.kp.here.form
        have HK := Lib.hid hK
        obtain ⟨⟨p0, p1, p2⟩, f0, f1, f2⟩ := cells3m_of hK.hp
        have hpl := hp_lt hK.hp
        obtain ⟨⟨q00, q01, q02⟩, q10, q11, q12⟩ := cells3m_of hK.rb
        have hgp := hK.gp
        clear hK
        cases gk with
        | zero =>
         obtain rfl : i = n := by omega
         clear hig hi1
         have t5 : decide ((i : Int) < (i : Int)) = false := by simp
         have t6 : decide (i < i) = false := by simp
         have HG : Hid (M6.G6 p ∧ p.size ≤ 29 ∧ M6.makeR l = if p.may = true then p else M6.oneR 98) := Lib.hid (by
          have h1 := HK.out.fld
          rw [List.take_of_length_le (by rw [List.length_map, HK.out.len]; exact Nat.le_refl _), HK.out.run] at h1
          have h2 := M6.foldR_good (M6.good_run l 14)
          rw [← h1] at h2
          refine ⟨h2.1, by omega, ?_⟩
          unfold M6.makeR
          rw [← h1])
         have HM := Lib.hid (rMay_any wr p (.slice o4 p.set.length c4) (.slice o5 p.parts.length c5) wr (by have := HG.out.2.1; omega) HG.out.1.fit HK.out.kp.here (Below.refl _ _))
         go_wp2_with fail
         refine HM.out.mono ?_
         rintro x w5 ⟨rfl, hb5⟩
         have HB5 := Lib.hid hb5
         obtain ⟨⟨p0, p1, p2⟩, f0, f1, f2⟩ := cells3m_of (bel_get hb5 HK.out.hp)
         obtain ⟨⟨q00, q01, q02⟩, q10, q11, q12⟩ := cells3m_of (bel_get hb5 HK.out.rb)
         clear hb5
         cases hmay : p.may with
         | true =>
          have HE6 := Lib.hid (m6_end (l := l) (e := p) (bel_get HB5.out HK.out.rb) (bel_then HK.out.bel HB5.out) ((HK.out.kp.to (.of HB5.out)).sub (fun k _ hk => hk.1)) (by rw [HG.out.2.2, if_pos hmay]))
          go_wp2_with fail
          obtain ⟨W9, hW, ⟨⟨e0, e1, e2⟩, m0, m1, m2⟩, hpost⟩ := HE6.out
          have HW := Lib.hid hW
          clear hW HE6
          rw [← HW.out]
          refine bodyPost_ret (v := .agg #[.int .i64 p.kind, .slice o4 p.set.length c4, .slice o5 p.parts.length c5]) (by simp [results, Tryz.results12, go_sem, e0, e1, e2, m0, m1, m2]) rfl hpost
         | false =>
          have HE := Lib.hid (show M6.makeR l = M6.oneR 98 by rw [HG.out.2.2, if_neg (by rw [hmay]; decide)])
          go_wp2_with fail
          refine (one_exact 98 w5).mono ?_
          rintro x w6 ⟨rfl, hw6⟩
          have hb6 : Below w5.heap.size w5 w6 := by rw [hw6]; exact bel_new (bel_new (Below.refl _ _) _) _
          have hq6 : w6.heap[w5.heap.size + 1]? = some (.cells #[.int .i32 98, .int .i32 98] 79 (0, 0)) := by
           rw [hw6]
           have h := heap_alloc_new (w5.alloc (.cells #[.int .i64 2, .slice (some ⟨w5.heap.size + 1, 0, none⟩) 1 1, .slice none 0 0] 35)) (.cells #[.int .i32 98, .int .i32 98] 79)
           simpa using h
          clear hw6
          have hrb6 := bel_get hb6 (bel_get HB5.out HK.out.rb)
          obtain ⟨⟨a0, a1, a2⟩, b0, b1, b2⟩ := cells3m_of hrb6
          have HE6 := Lib.hid (m6_end (l := l) (e := .mk 2 [(98, 98)] []) (sv := .slice (some ⟨w5.heap.size + 1, 0, none⟩) 1 1) (lv := .slice none 0 0) hrb6 (bel_then (bel_then HK.out.bel HB5.out) hb6) ((KP.block hq6 (by have := hp_lt (bel_get HB5.out HK.out.rb); omega)).mono (fun w' h => six_leaf h)) (HE.out))
          clear hq6 hrb6 hb6
          go_wp2_with fail
          obtain ⟨W9, hW, ⟨⟨e0, e1, e2⟩, m0, m1, m2⟩, hpost⟩ := HE6.out
          have HW := Lib.hid hW
          clear hW HE6
          rw [show (.int .i64 2 : Value) = .int .i64 (RE.mk 2 [(98, 98)] []).kind from rfl, ← HW.out]
          refine bodyPost_ret (v := .agg #[.int .i64 2, .slice (some ⟨w5.heap.size + 1, 0, none⟩) 1 1, .slice none 0 0]) (by simp [results, Tryz.results12, go_sem, e0, e1, e2, m0, m1, m2, RE.kind]) rfl hpost
        | succ g =>
         have hin : i < n := by omega
         obtain ⟨⟨qp', qs', ql'⟩, hq⟩ : ∃ q, ps[i]? = some q := ⟨ps[i]'(by have := HK.out.len; omega), by simp⟩
         obtain ⟨⟨o7, c7, e1⟩, ⟨o8, c8, e2⟩⟩ := (HK.out.el _ (List.mem_of_getElem? hq)).here.form
         dsimp only at e1 e2
         subst e1 e2
         obtain ⟨y0, y1, y2⟩ := HK.out.cells i _ hq
         have t5 : decide (i < n) = true := by simp; omega
         have t6 : (i : Int) < (n : Int) := by omega
         have n0 : ¬ g5 = wr.heap.size := by omega
         have n1 : g5 < wr.heap.size := by omega
         have n2 : ¬ pb = wr.heap.size := by omega
         have HI := Lib.hid (And.intro hi1 hq)
         clear hin hq hi1
         go_upto_region 24 with (fail)
         go_region_law (first | (fail))
         all_goals (
          obtain ⟨w5, hw5⟩ : ∃ w5, w5 = (((wr.setCell ⟨pb, 0, none⟩ (.int .i64 3)).setCell ⟨pb, 1, none⟩ (.slice none 0 0)).setCell ⟨pb, 2, none⟩ (.slice (some ⟨wr.heap.size, 0, none⟩) 2 2)).alloc (.cells #[.int .i64 p.kind, .slice o4 p.set.length c4, .slice o5 p.parts.length c5, .int .i64 qp'.kind, .slice o7 qp'.set.length c7, .slice o8 qp'.parts.length c8] 35) := ⟨_, rfl⟩
          rw [← hw5]
          have hK5 := HK.out.next HI.out.1 HI.out.2 (hw5.trans (set3_alloc hpl).symm)
          have HK5 := Lib.hid (hK5.moved (Below.refl _ _).drew)
          clear hK5 hw5
          go_wp2
          go_roundg g
          case measure => omega
          case rel => exact ⟨i + 1, _, _, _, by omega, by omega, by simp, HK5.out⟩)
      | false =>
       clear hb3
       go_wp2_with fail
       obtain ⟨pb, hpb⟩ : ∃ pb, pb = wr.heap.size := ⟨_, rfl⟩
       rw [← hpb] at HF ⊢
       have hpbr : w.heap.size < pb := by omega
       clear hpb x0 x1 x2 r00 r01 r02 r10 r11 r12 hg1 hg2
       go_loopg [9] (n - 1) (fun g s9 wx => ∃ (i : Nat) (p : RE) (sv lv : Value), i + g = n ∧ 1 ≤ i ∧ s9 = .int .i64 (i : Int) ∧ F6 l w n g5 pb ps i p sv lv wx)
       case atStart => exact ⟨1, _, _, _, by omega, by omega, rfl, HF.out⟩
       case round =>
        obtain ⟨i, p, sv, lv, hig, hi1, rfl, hK⟩ := hrel
        obtain ⟨⟨o4, c4, rfl⟩, ⟨o5, c5, rfl⟩⟩ := hK.kp.here.form
        have HK := Lib.hid hK
        obtain ⟨⟨p0, p1, p2⟩, f0, f1, f2⟩ := cells3m_of hK.hp
        have hpl := hp_lt hK.hp
        obtain ⟨⟨q00, q01, q02⟩, q10, q11, q12⟩ := cells3m_of hK.rb
        have hgp := hK.gp
        clear hK
        cases gk with
        | zero =>
         obtain rfl : i = n := by omega
         clear hig hi1
         have t5 : decide ((i : Int) < (i : Int)) = false := by simp
         have t6 : decide (i < i) = false := by simp
         have HG : Hid (M6.G6 p ∧ p.size ≤ 29 ∧ M6.makeR l = if p.may = true then p else M6.oneR 98) := Lib.hid (by
          have h1 := HK.out.fld
          rw [List.take_of_length_le (by rw [List.length_map, HK.out.len]; exact Nat.le_refl _), HK.out.run] at h1
          have h2 := M6.foldR_good (M6.good_run l 14)
          rw [← h1] at h2
          refine ⟨h2.1, by omega, ?_⟩
          unfold M6.makeR
          rw [← h1])
         have HM := Lib.hid (rMay_any wr p (.slice o4 p.set.length c4) (.slice o5 p.parts.length c5) wr (by have := HG.out.2.1; omega) HG.out.1.fit HK.out.kp.here (Below.refl _ _))
         go_wp2_with fail
         refine HM.out.mono ?_
         rintro x w5 ⟨rfl, hb5⟩
         have HB5 := Lib.hid hb5
         obtain ⟨⟨p0, p1, p2⟩, f0, f1, f2⟩ := cells3m_of (bel_get hb5 HK.out.hp)
         obtain ⟨⟨q00, q01, q02⟩, q10, q11, q12⟩ := cells3m_of (bel_get hb5 HK.out.rb)
         clear hb5
         cases hmay : p.may with
         | true =>
          have HE6 := Lib.hid (m6_end (l := l) (e := p) (bel_get HB5.out HK.out.rb) (bel_then HK.out.bel HB5.out) ((HK.out.kp.to (.of HB5.out)).sub (fun k _ hk => hk.1)) (by rw [HG.out.2.2, if_pos hmay]))
          go_wp2_with fail
          obtain ⟨W9, hW, ⟨⟨e0, e1, e2⟩, m0, m1, m2⟩, hpost⟩ := HE6.out
          have HW := Lib.hid hW
          clear hW HE6
          rw [← HW.out]
          refine bodyPost_ret (v := .agg #[.int .i64 p.kind, .slice o4 p.set.length c4, .slice o5 p.parts.length c5]) (by simp [results, Tryz.results12, go_sem, e0, e1, e2, m0, m1, m2]) rfl hpost
         | false =>
          have HE := Lib.hid (show M6.makeR l = M6.oneR 98 by rw [HG.out.2.2, if_neg (by rw [hmay]; decide)])
          go_wp2_with fail
          refine (one_exact 98 w5).mono ?_
          rintro x w6 ⟨rfl, hw6⟩
          have hb6 : Below w5.heap.size w5 w6 := by rw [hw6]; exact bel_new (bel_new (Below.refl _ _) _) _
          have hq6 : w6.heap[w5.heap.size + 1]? = some (.cells #[.int .i32 98, .int .i32 98] 79 (0, 0)) := by
           rw [hw6]
           have h := heap_alloc_new (w5.alloc (.cells #[.int .i64 2, .slice (some ⟨w5.heap.size + 1, 0, none⟩) 1 1, .slice none 0 0] 35)) (.cells #[.int .i32 98, .int .i32 98] 79)
           simpa using h
          clear hw6
          have hrb6 := bel_get hb6 (bel_get HB5.out HK.out.rb)
          obtain ⟨⟨a0, a1, a2⟩, b0, b1, b2⟩ := cells3m_of hrb6
          have HE6 := Lib.hid (m6_end (l := l) (e := .mk 2 [(98, 98)] []) (sv := .slice (some ⟨w5.heap.size + 1, 0, none⟩) 1 1) (lv := .slice none 0 0) hrb6 (bel_then (bel_then HK.out.bel HB5.out) hb6) ((KP.block hq6 (by have := hp_lt (bel_get HB5.out HK.out.rb); omega)).mono (fun w' h => six_leaf h)) (HE.out))
          clear hq6 hrb6 hb6
          go_wp2_with fail
          obtain ⟨W9, hW, ⟨⟨e0, e1, e2⟩, m0, m1, m2⟩, hpost⟩ := HE6.out
          have HW := Lib.hid hW
          clear hW HE6
          rw [show (.int .i64 2 : Value) = .int .i64 (RE.mk 2 [(98, 98)] []).kind from rfl, ← HW.out]
          refine bodyPost_ret (v := .agg #[.int .i64 2, .slice (some ⟨w5.heap.size + 1, 0, none⟩) 1 1, .slice none 0 0]) (by simp [results, Tryz.results12, go_sem, e0, e1, e2, m0, m1, m2, RE.kind]) rfl hpost
        | succ g =>
         have hin : i < n := by omega
         obtain ⟨⟨qp', qs', ql'⟩, hq⟩ : ∃ q, ps[i]? = some q := ⟨ps[i]'(by have := HK.out.len; omega), by simp⟩
         obtain ⟨⟨o7, c7, e1⟩, ⟨o8, c8, e2⟩⟩ := (HK.out.el _ (List.mem_of_getElem? hq)).here.form
         dsimp only at e1 e2
         subst e1 e2
         obtain ⟨y0, y1, y2⟩ := HK.out.cells i _ hq
         have t5 : decide (i < n) = true := by simp; omega
         have t6 : (i : Int) < (n : Int) := by omega
         have n0 : ¬ g5 = wr.heap.size := by omega
         have n1 : g5 < wr.heap.size := by omega
         have n2 : ¬ pb = wr.heap.size := by omega
         have HI := Lib.hid (And.intro hi1 hq)
         clear hin hq hi1
         go_upto_region 24 with (fail)
         go_region_law (first | (fail))
         all_goals (
          obtain ⟨w5, hw5⟩ : ∃ w5, w5 = (((wr.setCell ⟨pb, 0, none⟩ (.int .i64 3)).setCell ⟨pb, 1, none⟩ (.slice none 0 0)).setCell ⟨pb, 2, none⟩ (.slice (some ⟨wr.heap.size, 0, none⟩) 2 2)).alloc (.cells #[.int .i64 p.kind, .slice o4 p.set.length c4, .slice o5 p.parts.length c5, .int .i64 qp'.kind, .slice o7 qp'.set.length c7, .slice o8 qp'.parts.length c8] 35) := ⟨_, rfl⟩
          rw [← hw5]
          have hK5 := HK.out.next HI.out.1 HI.out.2 (hw5.trans (set3_alloc hpl).symm)
          have HK5 := Lib.hid (hK5.moved (Below.refl _ _).drew)
          clear hK5 hw5
          go_wp2
          go_roundg g
          case measure => omega
          case rel => exact ⟨i + 1, _, _, _, by omega, by omega, by simp, HK5.out⟩)
end Go.Proofs.YtfkmajjgkdjncaaGreatDoor
