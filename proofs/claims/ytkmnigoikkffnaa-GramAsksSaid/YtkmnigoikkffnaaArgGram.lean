/- Arguments that are grammars: expressions, patterns, tokens, steps, rules, out of what is read. -/
import Derived.Test.YtkmnigoikkffnaaArgPairs
import Derived.Test.YtkmnigoikkffnaaGram
import Derived.Test.YtkmnigoikkffnaaArgIntss
set_option linter.unusedVariables false
set_option linter.unusedSimpArgs false
namespace Go.Proofs.Ytkmnigoikkffnaa
open Go.RowKit Go.ChangeShapes Go.WideShapes Go.ChangeAt Go.Deep Go.Joins

/-- numbers of a machine in each set -/
inductive RE.Raw : RE → Prop
  | mk (k : Int) (s : List (Int × Int)) (l : List RE) (hs : i32s s) (h : ∀ (i : Nat) (e : RE), l[i]? = some e → RE.Raw e) : RE.Raw (.mk k s l)
theorem RE.Raw.sets {e : RE} (h : e.Raw) : i32s e.set := by cases h; assumption
theorem RE.Raw.part {e p : RE} {i : Nat} (h : e.Raw) (hp : e.parts[i]? = some p) : p.Raw := by cases h with | mk k s l hs h => exact h i p hp
theorem len2 {α : Type} {l : List α} (h : l.length = 2) : ∃ a b, l = [a, b] := by
  match l, h with
  | [a, b], _ => exact ⟨a, b, rfl⟩
theorem len3 {α : Type} {l : List α} (h : l.length = 3) : ∃ a b c, l = [a, b, c] := by
  match l, h with
  | [a, b, c], _ => exact ⟨a, b, c, rfl⟩
theorem len4 {α : Type} {l : List α} (h : l.length = 4) : ∃ a b c d, l = [a, b, c, d] := by
  match l, h with
  | [a, b, c, d], _ => exact ⟨a, b, c, d, rfl⟩
theorem len5 {α : Type} {l : List α} (h : l.length = 5) : ∃ a b c d e, l = [a, b, c, d, e] := by
  match l, h with
  | [a, b, c, d, e], _ => exact ⟨a, b, c, d, e, rfl⟩
theorem len6 {α : Type} {l : List α} (h : l.length = 6) : ∃ a b c d e f, l = [a, b, c, d, e, f] := by
  match l, h with
  | [a, b, c, d, e, f], _ => exact ⟨a, b, c, d, e, f, rfl⟩
theorem fm_inv {α : Type} (f : α → List Value) (W : Nat) : ∀ (l : List α) (j : Nat) (u : Value), (∀ a ∈ l, (f a).length = W) → (l.flatMap f)[j]? = some u → ∃ i a r, l[i]? = some a ∧ j = i * W + r ∧ r < W ∧ (f a)[r]? = some u := by
  intro l
  induction l with
  | nil => intro j u _ h; simp at h
  | cons x l ih =>
    intro j u hW h
    have hx := hW x (by simp)
    rw [List.flatMap_cons] at h
    rcases Nat.lt_or_ge j W with hj | hj
    · rw [List.getElem?_append_left (by omega)] at h
      exact ⟨0, x, j, rfl, by omega, hj, h⟩
    · rw [List.getElem?_append_right (by omega), hx] at h
      obtain ⟨i, a, r, h1, h2, h3, h4⟩ := ih (j - W) u (fun a ha => hW a (by simp [ha])) h
      exact ⟨i + 1, a, r, by simpa using h1, by rw [Nat.succ_mul]; omega, h3, h4⟩
theorem flat_eq {α : Type} {f : α → List Value} : ∀ (ps : List (List Value × α)), (∀ p ∈ ps, p.1 = f p.2) → ps.flatMap (·.1) = (ps.map (·.2)).flatMap f := by
  intro ps
  induction ps with
  | nil => intro _; rfl
  | cons p ps ih => intro h; rw [List.flatMap_cons, List.map_cons, List.flatMap_cons, h p (by simp), ih fun q hq => h q (by simp [hq])]
section
variable {H : Type} {enc : TypeId × Value → H} {W : World}
/-- a slice that is read: its elements' cells, each with what it holds -/
theorem trod_row {P : Program} {t e : TypeId} {fuel : Nat} {v : Value} {x : DataW H × List MemPlace} {α : Type} [Inhabited α] (C : Nat) (Q : List Value → α → Prop)
    (ht : P.underlying t = some (.slice e)) (hC : P.cellsOf e = C) (hC0 : 0 < C)
    (hf : DataW.trod enc P W 0 (fun _ => true) true fuel t [v] = some x) (hlt : ∀ y ∈ x.2, y.block < W.heap.size)
    (hq : ∀ n cs y, n < fuel → DataW.trod enc P W 0 (fun _ => true) true n e cs = some y → (∀ z ∈ y.2, z.block < W.heap.size) → ∃ a, Q cs a) :
    ∃ ps : List (List Value × α), Row W v ps.length (ps.flatMap (·.1)) ∧ ∀ p ∈ ps, p.1.length = C ∧ Q p.1 p.2 := by
  rcases DataW.trod_slice ht hf with ⟨hcs, hx⟩ | ⟨a, len, cap, elems, rest, n, rfl, hcs, hx, _, hl, hm, hlen, hel, _, _⟩
  · simp at hcs
    subst hcs
    exact ⟨[], Row.nil W, by simp⟩
  · simp at hcs
    subst hcs
    obtain ⟨F, hF⟩ := choose_lt (α := List Value × α) (n := len) (p := fun i p => W.cells? 0 (a.add (i * C)) C = some p.1 ∧ p.1.length = C ∧ Q p.1 p.2) (fun i hi => by
      have h1 := hel i hi
      rw [hC, List.getElem?_eq_getElem (by omega)] at h1
      obtain ⟨cs', h2, h3⟩ := Option.bind_eq_some_iff.1 h1
      obtain ⟨_, hl', _⟩ := World.cells?_some h2
      obtain ⟨q, hq'⟩ := hq n cs' _ (by omega) h3 (fun z hz => hlt z (by rw [hx]; exact List.mem_append.2 (.inr (List.mem_flatMap.2 ⟨elems[i], List.mem_append.2 (.inl (List.getElem_mem _)), hz⟩))))
      exact ⟨(cs', q), h2, hl', hq'⟩)
    refine ⟨(List.range len).map F, ?_, fun p hp => ?_⟩
    · rw [show ((List.range len).map F).length = len by simp]
      refine ⟨some a, cap, rfl, hl, hm, ?_⟩
      by_cases hl0 : len = 0
      · exact .inl ⟨hl0, fun h => by cases h⟩
      · obtain ⟨b, off, spot⟩ := a
        obtain ⟨h01, h02, _⟩ := hF 0 (by omega)
        have hc0 := (World.cells?_some h01).2.2 0 hC0
        rw [List.getElem?_eq_getElem (by omega)] at hc0
        have hspot : spot = none := by simpa [Addr.add] using World.cell?_spot hc0
        subst hspot
        have hbW : b < W.heap.size := hlt (.cell b off) (by
          rw [hx]
          exact List.mem_append.2 (.inl (MemPlace.mem_row.2 ⟨0, by rw [hC]; exact Nat.mul_pos (by omega) hC0, by simp⟩)))
        refine .inr ⟨b, off, rfl, hbW, fun j u hj => ?_⟩
        obtain ⟨i, q, r, hi, rfl, hr, hu⟩ := fm_inv (fun p : List Value × α => p.1) C _ j u (fun q hq => by
          obtain ⟨i, hi, rfl⟩ := List.mem_map.1 hq
          exact (hF i (by simpa using hi)).2.1) hj
        have hil : i < len := by simpa using (List.getElem?_eq_some_iff.1 hi).1
        have hq : F i = q := by simpa [hil] using hi
        subst hq
        have := (World.cells?_some (hF i hil).1).2.2 r hr
        rw [WideShapes.add_plain, WideShapes.add_plain, Nat.add_assoc] at this
        rw [this]; exact hu
    · obtain ⟨i, hi, rfl⟩ := List.mem_map.1 hp
      exact (hF i (by simpa using hi)).2
theorem fld {P : Program} {n o c : Nat} {t : TypeId} {cs : List Value} {r : Option (DataW H × List MemPlace)} (g : DataW.trod enc P W 0 (fun _ => true) true n t ((cs.drop o).take (P.cellsOf t)) = r) (hc : P.cellsOf t = c) : DataW.trod enc P W 0 (fun _ => true) true n t ((cs.drop o).take c) = r := by rw [hc] at g; exact g
theorem c1int : Try.prog.cellsOf 3 = 1 := by kernel_rfl
theorem c1i32 : Try.prog.cellsOf 21 = 1 := by kernel_rfl
theorem c1bool : Try.prog.cellsOf 4 = 1 := by kernel_rfl
theorem c1str : Try.prog.cellsOf 9 = 1 := by kernel_rfl
theorem c1strs : Try.prog.cellsOf 40 = 1 := by kernel_rfl
theorem c1rngs : Try.prog.cellsOf 50 = 1 := by kernel_rfl
theorem c1res : Try.prog.cellsOf 51 = 1 := by kernel_rfl
theorem c1pats : Try.prog.cellsOf 41 = 1 := by kernel_rfl
theorem c1stps : Try.prog.cellsOf 36 = 1 := by kernel_rfl
theorem c1toks : Try.prog.cellsOf 22 = 1 := by kernel_rfl
theorem c1ruls : Try.prog.cellsOf 23 = 1 := by kernel_rfl
theorem c2rng : Try.prog.cellsOf 82 = 2 := by kernel_rfl
theorem c3re : Try.prog.cellsOf 53 = 3 := by kernel_rfl
theorem c4pat : Try.prog.cellsOf 43 = 4 := by kernel_rfl
theorem c6tok : Try.prog.cellsOf 55 = 6 := by kernel_rfl
theorem c5stp : Try.prog.cellsOf 45 = 5 := by kernel_rfl
theorem c3rul : Try.prog.cellsOf 38 = 3 := by kernel_rfl
theorem c2gra : Try.prog.cellsOf 25 = 2 := by kernel_rfl
theorem i32_of {n : Int} (h : (Lit.int .i32 n).wf = true) : -2147483648 ≤ n ∧ n ≤ 2147483647 := by
  simp only [Lit.wf, Bool.and_eq_true, decide_eq_true_eq] at h
  exact ⟨h.1, by have := h.2; exact this⟩
set_option maxRecDepth 100000 in
/-- ranges -/
theorem read_rngs {fuel : Nat} {v : Value} {x : DataW H × List MemPlace} (hf : DataW.trod enc Try.prog W 0 (fun _ => true) true fuel 50 [v] = some x) (hlt : ∀ y ∈ x.2, y.block < W.heap.size) :
    ∃ s : List (Int × Int), Row W v s.length (flatK .i32 s) ∧ i32s s := by
  obtain ⟨ps, h1, h2⟩ := trod_row (α := Int × Int) 2 (fun cs p => cs = [.int .i32 p.1, .int .i32 p.2] ∧ (-2147483648 ≤ p.1 ∧ p.1 ≤ 2147483647) ∧ (-2147483648 ≤ p.2 ∧ p.2 ≤ 2147483647)) Try.underlying50 c2rng (by omega) hf hlt (fun n cs y hn hy hl => by
    obtain ⟨xs, m, rfl, hx, hcl, hxl, hg⟩ := DataW.trod_struct Try.underlying82 hy
    rw [c2rng] at hcl
    obtain ⟨a0, a1, rfl⟩ := len2 hcl
    obtain ⟨y0, y1, rfl⟩ := len2 hxl
    have g0 : DataW.trod enc Try.prog W 0 (fun _ => true) true m 21 [a0] = some y0 := fld (o := 0) (cs := [a0, a1]) (hg 0 _ rfl) c1i32
    have g1 : DataW.trod enc Try.prog W 0 (fun _ => true) true m 21 [a1] = some y1 := fld (o := 1) (cs := [a0, a1]) (hg 1 _ rfl) c1i32
    obtain ⟨z0, e0, _, w0⟩ := DataW.trod_int Try.underlying21 g0
    obtain ⟨z1, e1, _, w1⟩ := DataW.trod_int Try.underlying21 g1
    simp at e0 e1
    subst e0 e1
    exact ⟨(z0, z1), rfl, i32_of w0, i32_of w1⟩)
  refine ⟨ps.map (·.2), ?_, fun p hp => ?_⟩
  · rw [List.length_map, flatK, ← flat_eq ps fun p hp => (h2 p hp).2.1]; exact h1
  · obtain ⟨q, hq, rfl⟩ := List.mem_map.1 hp
    exact (h2 q hq).2.2
set_option maxRecDepth 100000 in
/-- texts -/
theorem read_strs {fuel : Nat} {v : Value} {x : DataW H × List MemPlace} (hf : DataW.trod enc Try.prog W 0 (fun _ => true) true fuel 40 [v] = some x) (hlt : ∀ y ∈ x.2, y.block < W.heap.size) :
    ∃ l : List ByteArray, Row W v l.length (strs l) := by
  obtain ⟨ps, h1, h2⟩ := trod_row (α := ByteArray) 1 (fun cs s => cs = [.string s]) Try.underlying40 c1str (by omega) hf hlt (fun n cs y hn hy hl => by
    obtain ⟨s, e0, _, w0⟩ := DataW.trod_string Try.underlying9 hy
    exact ⟨s, e0⟩)
  refine ⟨ps.map (·.2), ?_⟩
  have e := flat_eq (f := fun s : ByteArray => [Value.string s]) ps fun p hp => (h2 p hp).2
  have e2 : ∀ l : List ByteArray, (l.flatMap fun s => [Value.string s]) = strs l := fun l => by
    unfold strs
    induction l with
    | nil => rfl
    | cons a l ih => rw [List.flatMap_cons, ih]; rfl
  rw [e2] at e
  rw [List.length_map, ← e]; exact h1
set_option maxRecDepth 100000 in
/-- an expression -/
theorem read_re : ∀ (fuel : Nat) (cs : List Value) (x : DataW H × List MemPlace), DataW.trod enc Try.prog W 0 (fun _ => true) true fuel 53 cs = some x → (∀ y ∈ x.2, y.block < W.heap.size) →
    ∃ p : RE × Value × Value, cs = [.int .i64 p.1.kind, p.2.1, p.2.2] ∧ ReIs W p.1 p.2.1 p.2.2 ∧ p.1.Raw := by
  intro fuel
  induction fuel using Nat.strongRecOn with
  | _ fuel ih =>
    intro cs x h hlt
    obtain ⟨xs, n, rfl, rfl, hcl, hxl, hg⟩ := DataW.trod_struct Try.underlying53 h
    rw [c3re] at hcl
    obtain ⟨a0, a1, a2, rfl⟩ := len3 hcl
    obtain ⟨y0, y1, y2, rfl⟩ := len3 hxl
    have g0 : DataW.trod enc Try.prog W 0 (fun _ => true) true n 3 [a0] = some y0 := fld (o := 0) (cs := [a0, a1, a2]) (hg 0 _ rfl) c1int
    have g1 : DataW.trod enc Try.prog W 0 (fun _ => true) true n 50 [a1] = some y1 := fld (o := 1) (cs := [a0, a1, a2]) (hg 1 _ rfl) c1rngs
    have g2 : DataW.trod enc Try.prog W 0 (fun _ => true) true n 51 [a2] = some y2 := fld (o := 2) (cs := [a0, a1, a2]) (hg 2 _ rfl) c1res
    obtain ⟨k, e0, _, w0⟩ := DataW.trod_int Try.underlying3 g0
    simp at e0
    subst e0
    obtain ⟨s, hs, hz⟩ := read_rngs g1 (fun y hy => hlt y (by simp [hy]))
    letI : Inhabited (RE × Value × Value) := ⟨(.mk 0 [] [], .nilIface, .nilIface)⟩
    obtain ⟨ps, h1, h2⟩ := trod_row (α := RE × Value × Value) 3 (fun cs p => cs = [.int .i64 p.1.kind, p.2.1, p.2.2] ∧ ReIs W p.1 p.2.1 p.2.2 ∧ p.1.Raw) Try.underlying51 c3re (by omega) g2 (fun y hy => hlt y (by simp [hy])) (fun m cs y hm hy hl => ih m (by omega) cs y hy hl)
    have hget : ∀ (i : Nat) (e : RE) (p : Int × Value × Value), (ps.map fun q => q.2.1)[i]? = some e → (ps.map fun q => (q.2.1.kind, q.2.2.1, q.2.2.2))[i]? = some p → ∃ q ∈ ps, e = q.2.1 ∧ p = (q.2.1.kind, q.2.2.1, q.2.2.2) := by
      intro i e p he hp
      rw [List.getElem?_map] at he hp
      obtain ⟨q, hq, rfl⟩ := Option.map_eq_some_iff.1 he
      rw [hq] at hp
      simp at hp
      exact ⟨q, List.mem_of_getElem? hq, rfl, hp.symm⟩
    refine ⟨(.mk k s (ps.map fun q => q.2.1), a1, a2), rfl, .mk k s _ a1 a2 (ps.map fun q => (q.2.1.kind, q.2.2.1, q.2.2.2)) hs ?_ (by simp) ?_ ?_, .mk k s _ hz ?_⟩
    · rw [List.length_map]
      have e := flat_eq (f := fun p : RE × Value × Value => [Value.int .i64 p.1.kind, p.2.1, p.2.2]) ps fun p hp => (h2 p hp).2.1
      have e2 : trip (ps.map fun q => (q.2.1.kind, q.2.2.1, q.2.2.2)) = (ps.map (·.2)).flatMap fun p : RE × Value × Value => [Value.int .i64 p.1.kind, p.2.1, p.2.2] := by
        unfold trip; rw [List.flatMap_map, List.flatMap_map]
      rw [e2, ← e]; exact h1
    · intro i e p he hp
      obtain ⟨q, _, rfl, rfl⟩ := hget i e p he hp
      rfl
    · intro i e p he hp
      obtain ⟨q, hq, rfl, rfl⟩ := hget i e p he hp
      exact (h2 q hq).2.2.1
    · intro i e he
      rw [List.getElem?_map] at he
      obtain ⟨q, hq, rfl⟩ := Option.map_eq_some_iff.1 he
      exact (h2 q (List.mem_of_getElem? hq)).2.2.2
set_option maxRecDepth 100000 in
/-- a pattern -/
theorem read_pt : ∀ (fuel : Nat) (cs : List Value) (x : DataW H × List MemPlace), DataW.trod enc Try.prog W 0 (fun _ => true) true fuel 43 cs = some x → (∀ y ∈ x.2, y.block < W.heap.size) →
    ∃ p : PT × Value × Value × Value, cs = [.int .i64 p.1.kind, p.2.1, p.2.2.1, p.2.2.2] ∧ PtIs W p.1 p.2.1 p.2.2.1 p.2.2.2 := by
  intro fuel
  induction fuel using Nat.strongRecOn with
  | _ fuel ih =>
    intro cs x h hlt
    obtain ⟨xs, n, rfl, rfl, hcl, hxl, hg⟩ := DataW.trod_struct Try.underlying43 h
    rw [c4pat] at hcl
    obtain ⟨a0, a1, a2, a3, rfl⟩ := len4 hcl
    obtain ⟨y0, y1, y2, y3, rfl⟩ := len4 hxl
    have g0 : DataW.trod enc Try.prog W 0 (fun _ => true) true n 3 [a0] = some y0 := fld (o := 0) (cs := [a0, a1, a2, a3]) (hg 0 _ rfl) c1int
    have g1 : DataW.trod enc Try.prog W 0 (fun _ => true) true n 40 [a1] = some y1 := fld (o := 1) (cs := [a0, a1, a2, a3]) (hg 1 _ rfl) c1strs
    have g2 : DataW.trod enc Try.prog W 0 (fun _ => true) true n 40 [a2] = some y2 := fld (o := 2) (cs := [a0, a1, a2, a3]) (hg 2 _ rfl) c1strs
    have g3 : DataW.trod enc Try.prog W 0 (fun _ => true) true n 41 [a3] = some y3 := fld (o := 3) (cs := [a0, a1, a2, a3]) (hg 3 _ rfl) c1pats
    obtain ⟨k, e0, _, w0⟩ := DataW.trod_int Try.underlying3 g0
    simp at e0
    subst e0
    obtain ⟨s, hs⟩ := read_strs g1 (fun y hy => hlt y (by simp [hy]))
    obtain ⟨t, ht⟩ := read_strs g2 (fun y hy => hlt y (by simp [hy]))
    letI : Inhabited (PT × Value × Value × Value) := ⟨(.mk 0 [] [] [], .nilIface, .nilIface, .nilIface)⟩
    obtain ⟨ps, h1, h2⟩ := trod_row (α := PT × Value × Value × Value) 4 (fun cs p => cs = [.int .i64 p.1.kind, p.2.1, p.2.2.1, p.2.2.2] ∧ PtIs W p.1 p.2.1 p.2.2.1 p.2.2.2) Try.underlying41 c4pat (by omega) g3 (fun y hy => hlt y (by simp [hy])) (fun m cs y hm hy hl => ih m (by omega) cs y hy hl)
    have hget : ∀ (i : Nat) (e : PT) (p : Int × Value × Value × Value), (ps.map fun q => q.2.1)[i]? = some e → (ps.map fun q => (q.2.1.kind, q.2.2.1, q.2.2.2.1, q.2.2.2.2))[i]? = some p → ∃ q ∈ ps, e = q.2.1 ∧ p = (q.2.1.kind, q.2.2.1, q.2.2.2.1, q.2.2.2.2) := by
      intro i e p he hp
      rw [List.getElem?_map] at he hp
      obtain ⟨q, hq, rfl⟩ := Option.map_eq_some_iff.1 he
      rw [hq] at hp
      simp at hp
      exact ⟨q, List.mem_of_getElem? hq, rfl, hp.symm⟩
    refine ⟨(.mk k s t (ps.map fun q => q.2.1), a1, a2, a3), rfl, .mk k s t _ a1 a2 a3 (ps.map fun q => (q.2.1.kind, q.2.2.1, q.2.2.2.1, q.2.2.2.2)) hs ht ?_ (by simp) ?_ ?_⟩
    · rw [List.length_map]
      have e := flat_eq (f := fun p : PT × Value × Value × Value => [Value.int .i64 p.1.kind, p.2.1, p.2.2.1, p.2.2.2]) ps fun p hp => (h2 p hp).2.1
      have e2 : quad (ps.map fun q => (q.2.1.kind, q.2.2.1, q.2.2.2.1, q.2.2.2.2)) = (ps.map (·.2)).flatMap fun p : PT × Value × Value × Value => [Value.int .i64 p.1.kind, p.2.1, p.2.2.1, p.2.2.2] := by
        unfold quad; rw [List.flatMap_map, List.flatMap_map]
      rw [e2, ← e]; exact h1
    · intro i e p he hp
      obtain ⟨q, _, rfl, rfl⟩ := hget i e p he hp
      rfl
    · intro i e p he hp
      obtain ⟨q, hq, rfl, rfl⟩ := hget i e p he hp
      exact (h2 q hq).2.2
def TRaw (T : List TK) : Prop := ∀ (i : Nat) (t : TK), T[i]? = some t → t.re.Raw
set_option maxRecDepth 100000 in
/-- tokens -/
theorem read_toks {fuel : Nat} {v : Value} {x : DataW H × List MemPlace} (hf : DataW.trod enc Try.prog W 0 (fun _ => true) true fuel 22 [v] = some x) (hlt : ∀ y ∈ x.2, y.block < W.heap.size) :
    ∃ T : List TK, TksAre W v T ∧ TRaw T := by
  letI : Inhabited (TK × Value × Value) := ⟨(⟨⟨#[]⟩, 0, 0, .mk 0 [] []⟩, .nilIface, .nilIface)⟩
  obtain ⟨ps, h1, h2⟩ := trod_row (α := TK × Value × Value) 6 (fun cs p => cs = six p ∧ ReIs W p.1.re p.2.1 p.2.2 ∧ p.1.re.Raw) Try.underlying22 c6tok (by omega) hf hlt (fun n cs y hn hy hl => by
    obtain ⟨xs, m, rfl, rfl, hcl, hxl, hg⟩ := DataW.trod_struct Try.underlying55 hy
    rw [c6tok] at hcl
    obtain ⟨a0, a1, a2, a3, a4, a5, rfl⟩ := len6 hcl
    obtain ⟨y0, y1, y2, y3, rfl⟩ := len4 hxl
    have g0 : DataW.trod enc Try.prog W 0 (fun _ => true) true m 9 [a0] = some y0 := fld (o := 0) (cs := [a0, a1, a2, a3, a4, a5]) (hg 0 _ rfl) c1str
    have g1 : DataW.trod enc Try.prog W 0 (fun _ => true) true m 3 [a1] = some y1 := fld (o := 1) (cs := [a0, a1, a2, a3, a4, a5]) (hg 1 _ rfl) c1int
    have g2 : DataW.trod enc Try.prog W 0 (fun _ => true) true m 3 [a2] = some y2 := fld (o := 2) (cs := [a0, a1, a2, a3, a4, a5]) (hg 2 _ rfl) c1int
    have g3 : DataW.trod enc Try.prog W 0 (fun _ => true) true m 53 [a3, a4, a5] = some y3 := fld (o := 3) (cs := [a0, a1, a2, a3, a4, a5]) (hg 3 _ rfl) c3re
    obtain ⟨s, e0, _, _⟩ := DataW.trod_string Try.underlying9 g0
    obtain ⟨k, e1, _, _⟩ := DataW.trod_int Try.underlying3 g1
    obtain ⟨c, e2, _, _⟩ := DataW.trod_int Try.underlying3 g2
    simp at e0 e1 e2
    subst e0 e1 e2
    obtain ⟨⟨e, sv, lv⟩, hcs, hr, hw⟩ := read_re _ _ _ g3 (fun y hy => hl y (by simp [hy]))
    simp at hcs
    obtain ⟨rfl, rfl, rfl⟩ := hcs
    exact ⟨(⟨s, k, c, e⟩, a4, a5), rfl, hr, hw⟩)
  refine ⟨ps.map fun q => q.2.1, ⟨ps.map (·.2), by simp, ?_, fun i p hp => ?_⟩, fun i t ht => ?_⟩
  · rw [List.length_map, ← flat_eq ps fun p hp => (h2 p hp).2.1]; exact h1
  · rw [List.getElem?_map] at hp
    obtain ⟨q, hq, rfl⟩ := Option.map_eq_some_iff.1 hp
    exact (h2 q (List.mem_of_getElem? hq)).2.2.1
  · rw [List.getElem?_map] at ht
    obtain ⟨q, hq, rfl⟩ := Option.map_eq_some_iff.1 ht
    exact (h2 q (List.mem_of_getElem? hq)).2.2.2
set_option maxRecDepth 100000 in
/-- steps -/
theorem read_stps {fuel : Nat} {v : Value} {x : DataW H × List MemPlace} (hf : DataW.trod enc Try.prog W 0 (fun _ => true) true fuel 36 [v] = some x) (hlt : ∀ y ∈ x.2, y.block < W.heap.size) :
    ∃ L : List ST, StsAre W v L := by
  letI : Inhabited (ST × Value × Value × Value × Value) := ⟨(⟨[], .mk 0 [] [] []⟩, .nilIface, .nilIface, .nilIface, .nilIface)⟩
  obtain ⟨ps, h1, h2⟩ := trod_row (α := ST × Value × Value × Value × Value) 5 (fun cs p => cs = five p ∧ Row W p.2.1 p.1.calls.length (strs p.1.calls) ∧ PtIs W p.1.p p.2.2.1 p.2.2.2.1 p.2.2.2.2) Try.underlying36 c5stp (by omega) hf hlt (fun n cs y hn hy hl => by
    obtain ⟨xs, m, rfl, rfl, hcl, hxl, hg⟩ := DataW.trod_struct Try.underlying45 hy
    rw [c5stp] at hcl
    obtain ⟨a0, a1, a2, a3, a4, rfl⟩ := len5 hcl
    obtain ⟨y0, y1, rfl⟩ := len2 hxl
    have g0 : DataW.trod enc Try.prog W 0 (fun _ => true) true m 40 [a0] = some y0 := fld (o := 0) (cs := [a0, a1, a2, a3, a4]) (hg 0 _ rfl) c1strs
    have g1 : DataW.trod enc Try.prog W 0 (fun _ => true) true m 43 [a1, a2, a3, a4] = some y1 := fld (o := 1) (cs := [a0, a1, a2, a3, a4]) (hg 1 _ rfl) c4pat
    obtain ⟨s, hs⟩ := read_strs g0 (fun y hy => hl y (by simp [hy]))
    obtain ⟨⟨e, nv, ev, lv⟩, hcs, hr⟩ := read_pt _ _ _ g1 (fun y hy => hl y (by simp [hy]))
    simp at hcs
    obtain ⟨rfl, rfl, rfl, rfl⟩ := hcs
    exact ⟨(⟨s, e⟩, a0, a2, a3, a4), rfl, hs, hr⟩)
  refine ⟨ps.map fun q => q.2.1, ps.map (·.2), by simp, ?_, fun i p hp => ?_⟩
  · rw [List.length_map, ← flat_eq ps fun p hp => (h2 p hp).2.1]; exact h1
  · rw [List.getElem?_map] at hp
    obtain ⟨q, hq, rfl⟩ := Option.map_eq_some_iff.1 hp
    exact (h2 q (List.mem_of_getElem? hq)).2.2
set_option maxRecDepth 100000 in
/-- rules -/
theorem read_ruls {fuel : Nat} {v : Value} {x : DataW H × List MemPlace} (hf : DataW.trod enc Try.prog W 0 (fun _ => true) true fuel 23 [v] = some x) (hlt : ∀ y ∈ x.2, y.block < W.heap.size) :
    ∃ R : List RU, RusAre W v R := by
  letI : Inhabited (RU × Value) := ⟨(⟨0, false, []⟩, .nilIface)⟩
  obtain ⟨ps, h1, h2⟩ := trod_row (α := RU × Value) 3 (fun cs p => cs = three p ∧ StsAre W p.2 p.1.steps) Try.underlying23 c3rul (by omega) hf hlt (fun n cs y hn hy hl => by
    obtain ⟨xs, m, rfl, rfl, hcl, hxl, hg⟩ := DataW.trod_struct Try.underlying38 hy
    rw [c3rul] at hcl
    obtain ⟨a0, a1, a2, rfl⟩ := len3 hcl
    obtain ⟨y0, y1, y2, rfl⟩ := len3 hxl
    have g0 : DataW.trod enc Try.prog W 0 (fun _ => true) true m 3 [a0] = some y0 := fld (o := 0) (cs := [a0, a1, a2]) (hg 0 _ rfl) c1int
    have g1 : DataW.trod enc Try.prog W 0 (fun _ => true) true m 4 [a1] = some y1 := fld (o := 1) (cs := [a0, a1, a2]) (hg 1 _ rfl) c1bool
    have g2 : DataW.trod enc Try.prog W 0 (fun _ => true) true m 36 [a2] = some y2 := fld (o := 2) (cs := [a0, a1, a2]) (hg 2 _ rfl) c1stps
    obtain ⟨k, e0, _, _⟩ := DataW.trod_int Try.underlying3 g0
    obtain ⟨b, e1, _⟩ := DataW.trod_bool Try.underlying4 g1
    simp at e0 e1
    subst e0 e1
    obtain ⟨L, hL⟩ := read_stps g2 (fun y hy => hl y (by simp [hy]))
    exact ⟨(⟨k, b, L⟩, a2), rfl, hL⟩)
  refine ⟨ps.map fun q => q.2.1, ps.map (·.2), by simp, ?_, fun i p hp => ?_⟩
  · rw [List.length_map, ← flat_eq ps fun p hp => (h2 p hp).2.1]; exact h1
  · rw [List.getElem?_map] at hp
    obtain ⟨q, hq, rfl⟩ := Option.map_eq_some_iff.1 hp
    exact (h2 q (List.mem_of_getElem? hq)).2.2
set_option maxRecDepth 100000 in
/-- an argument that is a grammar -/
theorem arg_gram {r : Reach} {b0 : Nat} {v : Value} {d : DataW H} {ps : List MemPlace} (hval : Value.okWide Try.prog W r b0 25 v) (h : DataW.Trod enc Try.prog W 0 (fun _ => true) true 25 v d ps) (hlt : ∀ x ∈ ps, x.block < W.heap.size) :
    ∃ (T : List TK) (R : List RU) (tv rv : Value), v = .agg #[tv, rv] ∧ TksAre W tv T ∧ RusAre W rv R ∧ TRaw T := by
  obtain ⟨v0, v1, y0, y1, n, rfl, rfl, rfl, h0, h1⟩ := open_agg2 Try.underlying25 (by kernel_rfl) c2gra hval h
  obtain ⟨T, hT, hTr⟩ := read_toks h0 (fun y hy => hlt y (by simp [hy]))
  obtain ⟨R, hR⟩ := read_ruls h1 (fun y hy => hlt y (by simp [hy]))
  exact ⟨T, R, v0, v1, rfl, hT, hR, hTr⟩
end
end Go.Proofs.Ytkmnigoikkffnaa
