/- Merged: MkPick, QCall. -/
import Derived.Test.YtbanmggkfpnalaaGreatDoorGLim
import Derived.OrdersHeld
set_option linter.unusedVariables false
set_option linter.unusedSimpArgs false
namespace Go.Proofs.YtbanmggkfpnalaaGreatDoor
open Go.RowKit Ru

namespace PT
mutual
def deep : PT → Nat
  | .mk _ _ _ l => deeps l + 1
def deeps : List PT → Nat
  | [] => 0
  | e :: l => max (deep e) (deeps l)
end
theorem deep_mk (k : Int) (n e : List ByteArray) (l : List PT) : (mk k n e l).deep = deeps l + 1 := by rw [deep]
theorem deeps_nil : deeps [] = 0 := by rw [deeps]
theorem deeps_cons (e : PT) (l : List PT) : deeps (e :: l) = max e.deep (deeps l) := by rw [deeps]
theorem vis_ok : ∀ (N : Nat), (∀ e : PT, e.size ≤ N → ∀ n d, n + e.size ≤ 60 → e.deep + d ≤ 13 → e.vis n d = (true, n + e.size)) ∧
    (∀ l : List PT, sizes l ≤ N → ∀ n d, n + sizes l ≤ 60 → deeps l + d ≤ 13 → visL l n d = (true, n + sizes l)) := by
  intro N
  induction N with
  | zero =>
    refine ⟨fun e h => by have := e.size_pos; omega, fun l h n d hn hd => ?_⟩
    cases l with
    | nil => rw [visL_nil, sizes_nil]; rfl
    | cons e l => rw [sizes_cons] at h; have := e.size_pos; omega
  | succ N ih =>
    have key : ∀ e : PT, e.size ≤ N + 1 → ∀ n d, n + e.size ≤ 60 → e.deep + d ≤ 13 → e.vis n d = (true, n + e.size) := by
      intro e he n d hn hd
      cases e with
      | mk k ns es l =>
        rw [size_mk] at he hn ⊢
        rw [deep_mk] at hd
        rw [vis_eq, if_neg (by omega)]
        show visL l (n + 1) (d + 1) = _
        rw [ih.2 l (by omega) (n + 1) (d + 1) (by omega) (by omega)]
        congr 1; omega
    refine ⟨key, fun l => ?_⟩
    induction l with
    | nil => intro h n d _ _; rw [visL_nil, sizes_nil]; rfl
    | cons e l ihl =>
      intro h n d hn hd
      rw [sizes_cons] at h hn ⊢
      rw [deeps_cons] at hd
      rw [visL_cons, key e (by omega) n d (by omega) (by omega)]
      simp only [if_true]
      rw [ihl (by omega) (n + e.size) d (by omega) (by omega)]
      congr 1; omega
theorem fits_ok {e : PT} (hs : e.size ≤ 60) (hd : e.deep ≤ 12) : e.fitsB = true := by
  unfold fitsB; rw [(vis_ok e.size).1 e (Nat.le_refl _) 0 1 (by omega) (by omega)]
end PT
open PT
/-- what a maker's pattern is -/
structure GP (T : List TK) (p : PT) : Prop where
  ok : patE T p = none
  fit : p.Fit
structure Nm (T : List TK) (kind : Int) (ns : List ByteArray) : Prop where
  ok : namesE T kind [] ns = none
  pos : 0 < ns.length
  few : ns.length ≤ 2
theorem orE_none {a b : Option Int} (ha : a = none) (hb : b = none) : orE a b = none := by rw [ha, hb]; rfl
theorem gp_tok {T : List TK} {ns : List ByteArray} (h : Nm T 0 ns) : GP T (.mk 2 ns [] []) := by
  refine ⟨?_, .mk 2 ns [] [] (by have := h.few; omega) (by decide) (by decide) (fun i p h => by simp at h)⟩
  rw [patE_eq, if_neg (by simp [shp, PT.kind, PT.names, PT.ends, PT.parts]; exact decide_eq_true h.pos)]
  exact orE_none (by simpa [nodeE, PT.kind, PT.names, PT.ends] using h.ok) (patEL_nil T)
theorem gp_flat {T : List TK} {k : Int} (h : k = 1 ∨ k = 4) : GP T (.mk k [] [] []) := by
  refine ⟨?_, .mk k [] [] [] (by decide) (by decide) (by decide) (fun i p h => by simp at h)⟩
  rw [patE_eq, if_neg (by rcases h with rfl | rfl <;> simp [shp, PT.kind, PT.names, PT.ends, PT.parts])]
  exact orE_none (by rcases h with rfl | rfl <;> simp [nodeE, PT.kind]) (patEL_nil T)
theorem patEL_one {T : List TK} {p : PT} (h : GP T p) : patEL T [p] = none := by rw [patEL_cons]; exact orE_none h.ok (patEL_nil T)
theorem gp_in {T : List TK} {ns es : List ByteArray} {p : PT} (hn : Nm T 1 ns) (he : Nm T 2 es) (hp : GP T p) : GP T (.mk 3 ns es [p]) := by
  refine ⟨?_, .mk 3 ns es [p] (by have := hn.few; omega) (by have := he.few; omega) (by simp) (fun i q h => by
    match i, h with
    | 0, h => cases h; exact hp.fit
    | (n + 1), h => simp at h)⟩
  rw [patE_eq, if_neg (by
    have h1 := hn.pos; have h2 := he.pos
    simp [shp, PT.kind, PT.names, PT.ends, PT.parts]
    exact ⟨decide_eq_true h1, decide_eq_true h2⟩)]
  exact orE_none (by simpa [nodeE, PT.kind, PT.names, PT.ends] using orE_none hn.ok he.ok) (patEL_one hp)
theorem gp_star {T : List TK} {p : PT} (hp : GP T p) : GP T (.mk 7 [] [] [p]) := by
  refine ⟨?_, .mk 7 [] [] [p] (by decide) (by decide) (by simp) (fun i q h => by
    match i, h with
    | 0, h => cases h; exact hp.fit
    | (n + 1), h => simp at h)⟩
  rw [patE_eq, if_neg (by simp [shp, PT.kind, PT.names, PT.ends, PT.parts])]
  exact orE_none (by simp [nodeE, PT.kind]) (patEL_one hp)
theorem gp_two {T : List TK} {k : Int} {p q : PT} (h : k = 5 ∨ k = 6) (hp : GP T p) (hq : GP T q) : GP T (.mk k [] [] [p, q]) := by
  refine ⟨?_, .mk k [] [] [p, q] (by decide) (by decide) (by simp) (fun i r h => by
    match i, h with
    | 0, h => cases h; exact hp.fit
    | 1, h => cases h; exact hq.fit
    | (n + 2), h => simp at h)⟩
  rw [patE_eq, if_neg (by rcases h with rfl | rfl <;> simp [shp, PT.kind, PT.names, PT.ends, PT.parts])]
  refine orE_none (by rcases h with rfl | rfl <;> simp [nodeE, PT.kind]) ?_
  show patEL T [p, q] = none
  rw [patEL_cons]; exact orE_none hp.ok (patEL_one hq)
/-- the maker's stack behind j numbers -/
structure Stk (T : List TK) (j : Nat) (s : List PT) : Prop where
  len : s.length ≤ j
  good : ∀ p ∈ s, GP T p
  deep : ∀ p ∈ s, p.deep + s.length ≤ j + 2
  size : sizes s + s.length ≤ 3 * j
theorem sizes_append : ∀ (a b : List PT), sizes (a ++ b) = sizes a + sizes b := by
  intro a
  induction a with
  | nil => intro b; rw [sizes_nil]; simp
  | cons x a ih => intro b; rw [List.cons_append, sizes_cons, sizes_cons, ih]; omega
theorem Stk.nil (T : List TK) : Stk T 0 [] := ⟨by simp, fun p h => by simp at h, fun p h => by simp at h, by simp [sizes_nil]⟩
theorem Stk.push {T : List TK} {j : Nat} {s : List PT} {p : PT} (h : Stk T j s) (hp : GP T p) (hd : p.deep ≤ 2) (hs : p.size ≤ 2) : Stk T (j + 1) (s ++ [p]) := by
  have := h.len
  refine ⟨by simp; omega, fun q hq => ?_, fun q hq => ?_, by rw [sizes_append, sizes_cons, sizes_nil]; have := h.size; simp; omega⟩
  · rcases List.mem_append.1 hq with h1 | h1
    · exact h.good q h1
    · simp at h1; subst h1; exact hp
  · simp only [List.length_append, List.length_singleton]
    rcases List.mem_append.1 hq with h1 | h1
    · have := h.deep q h1; omega
    · simp at h1; subst h1; omega
theorem Stk.over {T : List TK} {j : Nat} {s : List PT} {p q : PT} (h : Stk T j (s ++ [p])) (hp : GP T q) (hd : q.deep = p.deep + 1) (hs : q.size = p.size + 1) : Stk T (j + 1) (s ++ [q]) := by
  have hl := h.len; have hz := h.size
  simp only [List.length_append, List.length_singleton] at hl
  rw [sizes_append, sizes_cons, sizes_nil] at hz
  simp only [List.length_append, List.length_singleton] at hz
  refine ⟨by simp; omega, fun r hr => ?_, fun r hr => ?_, by rw [sizes_append, sizes_cons, sizes_nil]; simp; omega⟩
  · rcases List.mem_append.1 hr with h1 | h1
    · exact h.good r (by simp [h1])
    · simp at h1; subst h1; exact hp
  · simp only [List.length_append, List.length_singleton]
    rcases List.mem_append.1 hr with h1 | h1
    · have := h.deep r (by simp [h1]); simp at this; omega
    · simp at h1; subst h1; have := h.deep p (by simp); simp at this; omega
theorem Stk.both {T : List TK} {j : Nat} {s : List PT} {p q r : PT} (h : Stk T j (s ++ [p, q])) (hp : GP T r) (hd : r.deep = max p.deep q.deep + 1) (hs : r.size = p.size + q.size + 1) : Stk T (j + 1) (s ++ [r]) := by
  have hl := h.len; have hz := h.size
  simp only [List.length_append, List.length_cons, List.length_nil] at hl
  rw [sizes_append, sizes_cons, sizes_cons, sizes_nil] at hz
  simp only [List.length_append, List.length_cons, List.length_nil] at hz
  refine ⟨by simp; omega, fun t ht => ?_, fun t ht => ?_, by rw [sizes_append, sizes_cons, sizes_nil]; simp; omega⟩
  · rcases List.mem_append.1 ht with h1 | h1
    · exact h.good t (by simp [h1])
    · simp at h1; subst h1; exact hp
  · simp only [List.length_append, List.length_singleton]
    rcases List.mem_append.1 ht with h1 | h1
    · have := h.deep t (by simp [h1]); simp at this; omega
    · simp at h1; subst h1
      have h2 := h.deep p (by simp); have h3 := h.deep q (by simp); simp at h2 h3; omega
theorem Stk.same {T : List TK} {j : Nat} {s : List PT} (h : Stk T j s) : Stk T (j + 1) s := ⟨by have := h.len; omega, h.good, fun p hp => by have := h.deep p hp; omega, by have := h.size; omega⟩
/-- the fold behind i of the stack's patterns -/
structure Fld (T : List TK) (j : Nat) (s : List PT) (i : Nat) (p : PT) : Prop where
  good : GP T p
  deep : p.deep + s.length ≤ j + 2 + (i - 1)
  size : p.size ≤ sizes (s.take i) + (i - 1)
theorem Fld.start {T : List TK} {j : Nat} {s : List PT} {p : PT} (h : Stk T j s) (hp : s[0]? = some p) : Fld T j s 1 p := by
  cases s with
  | nil => simp at hp
  | cons a s =>
    simp at hp; subst hp
    exact ⟨h.good a (by simp), by have := h.deep a (by simp); omega, by simp [sizes_cons, sizes_nil]⟩
theorem take_next {s : List PT} {i : Nat} {q : PT} (h : s[i]? = some q) : s.take (i + 1) = s.take i ++ [q] := by
  rw [List.take_add_one, h]; rfl
theorem Fld.next {T : List TK} {j i : Nat} {s : List PT} {p q : PT} (h : Stk T j s) (f : Fld T j s i p) (hi : 1 ≤ i) (hq : s[i]? = some q) : Fld T j s (i + 1) (.mk 5 [] [] [p, q]) := by
  have h1 := h.deep q (List.mem_of_getElem? hq)
  have h2 := f.deep
  have h3 := f.size
  refine ⟨gp_two (.inl rfl) f.good (h.good q (List.mem_of_getElem? hq)), ?_, ?_⟩
  · rw [deep_mk, deeps_cons, deeps_cons, deeps_nil]; omega
  · rw [size_mk, sizes_cons, sizes_cons, sizes_nil, take_next hq, sizes_append, sizes_cons, sizes_nil]; omega
/-- a pattern that a step may have -/
structure PGood (T : List TK) (p : PT) : Prop where
  ok : patE T p = none
  fits : p.fitsB = true
  fit : p.Fit
theorem Fld.done {T : List TK} {j : Nat} {s : List PT} {p : PT} (h : Stk T j s) (hj : j ≤ 8) (f : Fld T j s s.length p) : PGood T p := by
  have h1 := f.deep; have h2 := f.size; have h3 := h.size; have h4 := h.len
  rw [List.take_length] at h2
  exact ⟨f.good.ok, fits_ok (by omega) (by omega), f.good.fit⟩
theorem pgood_well (T : List TK) : PGood T (.mk 4 [] [] []) := ⟨(gp_flat (.inr rfl)).ok, fits_ok (by rw [size_mk, sizes_nil]; omega) (by rw [deep_mk, deeps_nil]; omega), (gp_flat (T := T) (.inr rfl)).fit⟩
end Go.Proofs.YtbanmggkfpnalaaGreatDoor

namespace Go.Proofs.YtbanmggkfpnalaaGreatDoor
open Go.RowKit Ru

theorem pick_idx (k : Int) (n : Nat) (h : 0 < n) : ∃ i : Nat, i < n ∧ (n ≤ 1048576 → (IntKind.u64.wrap k).tmod (n : Int) = (i : Int)) := by
  by_cases hn : n ≤ 1048576
  · obtain ⟨i, hi, e⟩ := u64_mod' k n h hn; exact ⟨i, hi, fun _ => e⟩
  · exact ⟨0, h, fun h' => absurd h' hn⟩
set_option maxHeartbeats 8000000 in
set_option maxRecDepth 100000 in
theorem pick_one (b off n c i : Nat) (k : Int) (w : World) (hn1 : 1 ≤ n) (hn : n ≤ 2) (hc : n ≤ c) (hi : i < n) (ei : (IntKind.u64.wrap k).tmod (n : Int) = (i : Int)) (hp : bits BinOp.and IntKind.i64 k 1 = 1 → n = 1) :
    Calls Tryz.prog 45 #[.slice (some ⟨b, off, none⟩) n c, .int .i64 k] w fun e w' => e = .returned (.slice (some ⟨b, off + i, none⟩) 1 (c - i)) ∧ w' = w := by
  have ew : IntKind.u64.wrap (n : Int) = (n : Int) := IntWalk.u64_in _ (by omega)
  have ei2 : IntKind.i64.wrap (i : Int) = (i : Int) := IntWalk.i64_in _ (by omega)
  have hn0 : ¬ (n : Int) = 0 := by omega
  have hd0 : decide ((n : Int) = 0) = false := by simp; omega
  by_cases hq : bits BinOp.and IntKind.i64 k 1 = 1
  · have hn9 : decide ((1 : Int) < (n : Int)) = false := by have := hp hq; simp; omega
    clear hp
    go_enter Tryz.func45, Tryz.ntmps45
    go_wp2_with fail
    go_ret
    exact ⟨rfl, rfl⟩
  · clear hp
    have hb : (bits BinOp.and IntKind.i64 k 1 == 1) = false := by simpa using hq
    go_enter Tryz.func45, Tryz.ntmps45
    go_wp2_with fail
    go_ret
    exact ⟨rfl, rfl⟩
set_option maxHeartbeats 8000000 in
set_option maxRecDepth 100000 in
theorem pick_whole (b off n c i : Nat) (k : Int) (w : World) (hn1 : 2 ≤ n) (hn : n ≤ 2) (hc : n ≤ c) (hi : i < n) (ei : (IntKind.u64.wrap k).tmod (n : Int) = (i : Int)) (hq : bits BinOp.and IntKind.i64 k 1 = 1) :
    Calls Tryz.prog 45 #[.slice (some ⟨b, off, none⟩) n c, .int .i64 k] w fun e w' => e = .returned (.slice (some ⟨b, off, none⟩) n c) ∧ w' = w := by
  have ew : IntKind.u64.wrap (n : Int) = (n : Int) := IntWalk.u64_in _ (by omega)
  have ei2 : IntKind.i64.wrap (i : Int) = (i : Int) := IntWalk.i64_in _ (by omega)
  have hn0 : ¬ (n : Int) = 0 := by omega
  have hd0 : decide ((n : Int) = 0) = false := by simp; omega
  have hn9 : decide ((1 : Int) < (n : Int)) = true := by simp; omega
  go_enter Tryz.func45, Tryz.ntmps45
  go_wp2_with fail
  go_ret
  exact ⟨rfl, rfl⟩
/-- some of a list's names: all, or one -/
def Sub (ns l : List ByteArray) : Prop := ns = l ∨ ∃ x ∈ l, ns = [x]
theorem pick_any (l : List ByteArray) (lv : Value) (k : Int) (w : World) (hr : Row w lv l.length (strs l)) (h1 : 1 ≤ l.length) (h2 : l.length ≤ 2) :
    ∃ (o : Option Addr) (n c : Nat) (ns : List ByteArray), ns.length = n ∧ (∀ w', Row w' lv l.length (strs l) → Row w' (.slice o n c) n (strs ns)) ∧ Sub ns l ∧ ∀ w', Calls Tryz.prog 45 #[lv, .int .i64 k] w' fun e w'' => e = .returned (.slice o n c) ∧ w'' = w' := by
  have hr0 := hr
  obtain ⟨o, c, rfl, hc, hm, hrr⟩ := hr
  rcases hrr with ⟨h0, -⟩ | ⟨b, off, rfl, hlt, hcell⟩
  · omega
  · obtain ⟨i, hi, ei⟩ := pick_idx k l.length (by omega)
    by_cases hq : bits BinOp.and IntKind.i64 k 1 = 1 ∧ l.length = 2
    · exact ⟨_, _, _, l, rfl, fun w' h => h, .inl rfl, fun w' => pick_whole b off _ c i k w' (by omega) h2 hc hi (ei (by omega)) hq.1⟩
    · refine ⟨_, 1, _, [l[i]], rfl, ?_, .inr ⟨_, List.getElem_mem hi, rfl⟩, fun w' => pick_one b off _ c i k w' h1 h2 hc hi (ei (by omega)) (fun h => by
        have : ¬ l.length = 2 := fun e => hq ⟨h, e⟩
        omega)⟩
      rintro w' ⟨o', c', e, hc', hm', hrr'⟩
      cases e
      rcases hrr' with ⟨h0, -⟩ | ⟨b', off', e', hlt', hcell'⟩
      · omega
      cases e'
      refine ⟨_, _, rfl, by omega, by omega, .inr ⟨b, off + i, rfl, hlt', ?_⟩⟩
      intro j u hj
      match j, hj with
      | 0, hj =>
        simp [strs] at hj
        subst hj
        exact hcell' i _ (strs_get (by simp))
      | (n + 1), hj => simp [strs] at hj
/-- the blocks of strings, and those that are new -/
def SZ (w : World) (k : Nat) : Prop := w.heap.size ≤ k ∨ ∃ cs f, w.heap[k]? = some (.cells cs 9 f)
theorem pick_kp (l : List ByteArray) (lv : Value) (k : Int) (w : World) {S : Nat → Prop} (hr : KP S w (fun w' => Row w' lv l.length (strs l))) (h1 : 1 ≤ l.length) (h2 : l.length ≤ 2) :
    ∃ (o : Option Addr) (n c : Nat) (ns : List ByteArray), ns.length = n ∧ KP S w (fun w' => Row w' (.slice o n c) n (strs ns)) ∧ Sub ns l ∧ ∀ w', Calls Tryz.prog 45 #[lv, .int .i64 k] w' fun e w'' => e = .returned (.slice o n c) ∧ w'' = w' := by
  obtain ⟨o, n, c, ns, a, b, d, e⟩ := pick_any l lv k w hr.here h1 h2
  exact ⟨o, n, c, ns, a, hr.mono b, d, e⟩
end Go.Proofs.YtbanmggkfpnalaaGreatDoor

namespace Go.Proofs.YtbanmggkfpnalaaGreatDoor
open Go Go.RowKit

section
variable {P : Program} {ops : Array Oper} {Q : Exit → Act → World → Prop} {md : Region.Mode} {S : World → Prop}
/-- in state a, in every world that meets S, the call returns v and does nothing else -/
def YieldsC (P : Program) (ops : Array Oper) (S : World → Prop) (o : Oper) (v : Value) (a : Act) : Prop :=
  Region.wanted o (yielded ops a.tmps) = true ∧ ∀ w, S w → ∃ f args, (execOp a.eval o).run P w = .ok (.enter f args) w ∧ Calls P f args w (fun e w' => e = .returned v ∧ w' = w)
theorem YieldsC.wpOp {i : Nat} {o : Oper} {v : Value} {a : Act} (hi : ops[i]? = some o) (hy : YieldsC P ops S o v a)
    {K : Act → World → Prop} {w : World} (hS : S w) (h : K (a.put o.dst v) w) : wpOp P ops Q i K a w := by
  unfold Go.wpOp
  obtain ⟨f, args, hr, hc⟩ := hy.2 w hS
  simp only [hi, hy.1, if_true, Oper.wp, hr, Oper.upon]
  refine .inl (hc.mono ?_)
  rintro e w' ⟨rfl, rfl⟩
  exact h
theorem YieldsC.of_same {o : Oper} {v : Value} {a a' : Act} (hy : YieldsC P ops S o v a) (he : execOp a'.eval o = execOp a.eval o)
    (hw : Region.wanted o (yielded ops a'.tmps) = Region.wanted o (yielded ops a.tmps)) : YieldsC P ops S o v a' := by
  unfold YieldsC at *
  rw [he, hw]
  exact hy
theorem wpOp_putC {j : Nat} {oi oj : Oper} {v : Value} (hj : ops[j]? = some oj) (hap : oi.apart ops oj = true)
    (hsi : ∀ cs b, oi.op ≠ .select cs b) (hsj : ∀ cs b, oj.op ≠ .select cs b)
    (hQ : ∀ c a w, Q (.panic c) (a.put oi.dst v) w → Q (.panic c) a w) {K : Act → World → Prop} {a : Act} {w : World}
    (hy : YieldsC P ops S oi v a) (h : wpOp P ops Q j K (a.put oi.dst v) w) :
    wpOp P ops Q j (fun a' w' => YieldsC P ops S oi v a' ∧ K (a'.put oi.dst v) w') a w := by
  obtain ⟨h1, h2, h3⟩ := Oper.apart_spec hap
  have keep : ∀ (a : Act), YieldsC P ops S oi v a → ∀ u, YieldsC P ops S oi v (a.put oj.dst u) := fun a hy u =>
    hy.of_same (execOp_put oi hsi a oj.dst u h3) (wanted_put oi a oj.dst u h3)
  have keepD : ∀ d, YieldsC P ops S oi v { a with defers := d :: a.defers } := fun d => hy.of_same rfl rfl
  unfold Go.wpOp at *
  simp only [hj] at *
  rw [wanted_put oj a oi.dst v h1] at h
  split
  · rename_i hw
    simp only [hw, if_true] at h
    rcases h with h | ⟨hasks, hlets⟩
    case inr => exact .inr ⟨by unfold Oper.asks at *; rw [execOp_put oj hsj a oi.dst v h1] at hasks; exact hasks, hlets⟩
    refine .inl ?_
    unfold Oper.wp at *
    rw [execOp_put oj hsj a oi.dst v h1] at h
    generalize (execOp a.eval oj).run P w = r at *
    cases r with
    | ok n w' =>
      cases n <;> simp only [Oper.upon] at h ⊢
      case value u => exact ⟨keep a hy u, by rw [← Act.put_comm a v u h2]; exact h⟩
      case skip => exact ⟨keep a hy _, by rw [← Act.put_comm a v undef h2]; exact h⟩
      case defer d =>
        refine ⟨keep _ (keepD d) _, ?_⟩
        rw [← Act.put_comm _ v undef h2, ← Act.put_defers]
        exact h
      case enter f args =>
        refine Calls.mono h fun e w'' he => ?_
        cases e with
        | returned u => exact ⟨keep a hy u, by rw [← Act.put_comm a v u h2]; exact he⟩
        | panicked c => exact hQ _ _ _ he
        | outgrown => exact he
      case row row args => exact Rows.mono h fun u w'' he => ⟨keep a hy u, by rw [← Act.put_comm a v u h2]; exact he⟩
    | halt x w' =>
      cases x <;> simp only [Oper.upon] at h ⊢
      case panic u => exact hQ _ _ _ h
  · rename_i hw
    simp only [hw] at h
    exact ⟨keep a hy _, by rw [← Act.put_comm a v undef h2]; exact h⟩
theorem wpAnyH_firstC {i : Nat} {oi : Oper} {v : Value} (hi : ops[i]? = some oi) (hsel : ∀ (j : Nat) (o : Oper) cs b, ops[j]? = some o → o.op ≠ .select cs b)
    (hQ : ∀ c a w, Q (.panic c) (a.put oi.dst v) w → Q (.panic c) a w) :
    ∀ (fuel : Nat) (listed : Array Bool) (a : Act) (w : World),
      (∀ j oj, ops[j]? = some oj → j ≠ i → listed.getD j true = false → (∀ e ∈ oj.after, Region.binds md e = true → e.on ≠ i) → oi.apart ops oj = true) →
      i ∈ Region.ready md ops listed → YieldsC P ops S oi v a → S w →
      wpAnyH P md ops Q S fuel (listed.setIfInBounds i true) (a.put oi.dst v) w → wpAnyH P md ops Q S (fuel + 1) listed a w := by
  intro fuel
  induction fuel with
  | zero =>
    intro listed a w _ hr hy hS H
    refine ⟨fun h => (by rw [h] at hr; cases hr), fun j hj => ?_⟩
    by_cases hji : j = i
    · subst hji; exact hy.wpOp hi hS ⟨hS, H⟩
    · have := ready_mono hj hji
      rw [H.1] at this
      cases this
  | succ fuel ih =>
    intro listed a w hfree hr hy hS H
    refine ⟨fun h => (by rw [h] at hr; cases hr), fun j hj => ?_⟩
    by_cases hji : j = i
    · subst hji; exact hy.wpOp hi hS ⟨hS, H⟩
    · have h1 := H.2 j (ready_mono hj hji)
      obtain ⟨hjun, oj, hoj, hall⟩ := mem_ready.1 hj
      have hnot : ∀ e ∈ oj.after, Region.binds md e = true → e.on ≠ i := fun e he hb heq => by
        have h1 := hall e he hb
        have h0 := (mem_ready.1 hr).1
        rw [heq] at h1
        rcases Nat.lt_or_ge i listed.size with h' | h'
        · simp [h'] at h0 h1; rw [h0] at h1; cases h1
        · simp [Array.getElem?_eq_none h'] at h1
      have h2 := wpOp_putC hoj (hfree j oj hoj hji hjun hnot) (fun cs b => hsel i oi cs b hi) (fun cs b => hsel j oj cs b hoj) hQ hy h1
      have hfree' : ∀ k ok, ops[k]? = some ok → k ≠ i → (listed.setIfInBounds j true).getD k true = false →
          (∀ e ∈ ok.after, Region.binds md e = true → e.on ≠ i) → oi.apart ops ok = true := fun k ok hk hki hun hno => by
        refine hfree k ok hk hki ?_ hno
        by_cases hjk : j = k
        · subst hjk; exact hjun
        · rw [getD_set_ne true hjk] at hun; exact hun
      refine wpOp_mono (fun a' w' h3 => ⟨h3.2.1, ih (listed.setIfInBounds j true) a' w' hfree' (ready_mono hr (Ne.symm hji)) h3.1 h3.2.1 ?_⟩) h2
      rw [Array.setIfInBounds_comm _ _ hji]
      exact h3.2.2
/-- take number i, a call, first -/
theorem wpAnyH_takeC {i : Nat} {oi : Oper} {v : Value} {fuel : Nat} {listed : Array Bool} {a : Act} {w : World} (hi : ops[i]? = some oi)
    (hs : Region.noSelect ops = true) (hf : Region.free md ops listed i = true) (hr : (Region.ready md ops listed).contains i = true)
    (hQ : ∀ c a w, Q (.panic c) (a.put oi.dst v) w → Q (.panic c) a w) (hy : YieldsC P ops S oi v a) (hS : S w)
    (h : wpAnyH P md ops Q S fuel (listed.setIfInBounds i true) (a.put oi.dst v) w) : wpAnyH P md ops Q S (fuel + 1) listed a w :=
  wpAnyH_firstC hi (Region.noSelect_spec hs) hQ fuel listed a w (Region.free_spec hi hf) (by simpa using hr) hy hS h
end
end Go.Proofs.YtbanmggkfpnalaaGreatDoor
